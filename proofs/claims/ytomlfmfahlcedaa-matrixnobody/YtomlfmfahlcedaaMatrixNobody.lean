/- MatrixNobody: what is no matrix -/
import Derived.Test.YtomlfmfahlcedaaRows
import Derived.Test.YtomlfmfahlcedaaMtp
import Derived.Test.YtomlfmfahlcedaaMto
import Derived.Test.YtomlfmfahlcedaaMtr
import Derived.Deep.RegionHeld3
import Derived.WalkKit
import Derived.ProofKit
import Derived.OpenShut
import Derived.ShutString
import Derived.ChangeOld
import Derived.Below
namespace Go.Proofs.Ytomlfmfahlcedaa.matrixNobody
open Go.ChangeShapes Go.WideShapes Go.ChangeAt Go.RowKit
set_option linter.unusedVariables false

theorem own : ownKnob Try.prog.godebug = none := by kernel_rfl
theorem laidOut : laidOutB Try.prog = true := by kernel_rfl

/-- what the law's statement before its calls makes -/
def OddAt (b n : Nat) (F : Nat → Nat → Int) (La : Nat → Nat) (w : World) (s9 : Value) (wr : World) : Prop :=
  ∃ A c, s9 = .slice A (n + 1) c ∧ Mx b wr (oddF n F) (oddL n La) A (n + 1) ∧ Live 69643 b 16 w wr

set_option maxRecDepth 100000 in
set_option maxHeartbeats 8000000 in
theorem walk (a0 : Option Addr) (len0 cap0 : Nat) (a1 : Int) (w : World) (w0 : IsMat w a0 len0 cap0) (_ : (Lit.int .i64 a1).wf = true) :
    Calls Try.prog 8 #[.slice a0 len0 cap0, .int .i64 a1] w fun e w' => e = .returned (.bool true) ∧ Below w.heap.size w w' := by
  obtain ⟨j0, hj, hy0, hy1, hy2⟩ := info_parts infoRow
  obtain ⟨F, La, _, hcap, hma⟩ := w0
  have HMA := Lib.hid hma
  clear hma
  go_enter Try.func8, Try.ntmps8
  go_wp2_with fail
  refine (awakeM _).mono ?_
  rintro e w1 ⟨rfl, hb1⟩
  have H1 := Lib.hid hb1
  clear hb1
  go_wp2_with fail
  refine (few10 w.heap.size F La a0 len0 cap0 _ ((HMA.out _ (Nat.le_refl _)).below H1.out)).mono ?_
  rintro e w' ⟨t, rfl, ht, rfl⟩
  cases t
  · clear ht
    go_wp2_with fail
    go_ret
    exact ⟨rfl, H1.out⟩
  obtain ⟨hn0, hLs⟩ := ht rfl
  have HLS := Lib.hid hLs
  clear ht hLs
  go_wp2_with fail
  refine (mfield_yes _).mono ?_
  rintro e w2 ⟨b, rfl, hFl, hnb, hb3⟩
  have hL := Live.start H1.out hFl hnb hb3
  have HL := Lib.hid hL
  have hlow : w.heap.size ≤ b := hL.2.2
  have hkd := good69643.kind
  have KEEP := Lib.hid (show ∀ w', Live 69643 b 16 w w' → Mx b w' F La a0 len0 from fun w' h => (HMA.out b hlow).below h.2.1)
  clear hFl hnb hb3 H1 hL HMA
  obtain ⟨As, Cs, ra, ra2⟩ := KEEP.out _ HL.out
  have RA := Lib.hid ra
  have RA2 := Lib.hid ra2
  clear ra ra2
  have HZ := Lib.hid hcap
  clear hcap
  have hmk : ∀ W : World, (Instr.makeSlice TIs (.int .i64 11) (.int .i64 11)).run Try.prog W = .ok (.slice (some ⟨W.heap.size, 0, none⟩) 11 11) (W.alloc (.cells (madeCells #[.int .i64 0] 11) TI)) := fun W => run_make_row' (P := Try.prog) TIs TI (.int .i64 0) 8 underI infoI rfl .i64 .i64 11 (by omega) (by omega) W
  have hbw := HL.out.1.lt
  go_wp2_with fail
  go_cut [9] (fun s9 wr => OddAt b len0 F La w s9 wr)
  case first =>
    go_region_held3 (fun w' => Below w2.heap.size w2 w')
      (first | exact Below.refl _ _ | exact below_grown ‹Below _ _ _› hold3 hgr3 | exact below_grown ‹Below _ _ _› hold5 hgr5 | exact Below.alloc ‹Below _ _ _› (‹Below _ _ _›.size) _ | exact (Below.refl _ _).drew)
      (first
        | (refine step_append_rd' _ rfl (.tmp 27) (.tmp 28) 22 rfl w2.heap.size TIs j0 nilS 24 Try.underlying22 hj hy0 hy1 hy2 rfl (.slice (some ⟨_, 0, none⟩) 0 0) 0 [] rfl (by repeat (first | with_reducible exact hown3 | ((with_reducible refine own_freshM _ _ _ _ _ _ ?_ ?_ ?_) <;> (first | (simp; done) | omega | (simp; omega))) | ((with_reducible refine own_fresh0 _ _ _ _ ?_ ?_) <;> (first | (simp; done) | omega | (simp; omega))) | ((with_reducible refine own_fresh1 _ _ _ _ _ ?_ ?_) <;> (first | (simp; done) | omega | (simp; omega))) | with_reducible refine World.ownsRow.drew ?_ | with_reducible refine World.ownsRow.alloc ?_ _ | (with_reducible refine keep_kind hold3 hgr3 ?_ ?_; decide) | (with_reducible refine World.ownsRow.kept ?_ hgr3 (Or.inr ?_); rotate_left; (simp [Value.ownBlock] <;> omega); rotate_right))) b (slis As La Cs) a0 len0 cap0 rfl HZ.out (RA.out.below ‹Below _ _ _›) (one_slis _ _ _) (by unfold maxLen; omega) (by omega) (‹Below _ _ _›.size) ?_; intro v3 w3 hold3 hown3 hgr3; have hs3 := Nat.le_trans (‹Below _ _ _›.size) hgr3.size)
        | (refine' step_append_rd' _ rfl (.tmp 29) (.tmp 31) 22 rfl w2.heap.size TIs j0 nilS 24 Try.underlying22 hj hy0 hy1 hy2 rfl v3 (0 + len0) ([] ++ (List.range len0).map (slis As La Cs)) rfl (by repeat (first | with_reducible exact hown3 | ((with_reducible refine own_freshM _ _ _ _ _ _ ?_ ?_ ?_) <;> (first | (simp; done) | omega | (simp; omega))) | ((with_reducible refine own_fresh0 _ _ _ _ ?_ ?_) <;> (first | (simp; done) | omega | (simp; omega))) | ((with_reducible refine own_fresh1 _ _ _ _ _ ?_ ?_) <;> (first | (simp; done) | omega | (simp; omega))) | with_reducible refine World.ownsRow.drew ?_ | with_reducible refine World.ownsRow.alloc ?_ _ | (with_reducible refine keep_kind hold3 hgr3 ?_ ?_; decide) | (with_reducible refine World.ownsRow.kept ?_ hgr3 (Or.inr ?_); rotate_left; (simp [Value.ownBlock] <;> omega); rotate_right))) b (row11 _) (some ⟨_, 0, none⟩) 1 1 rfl (fun h => by cases h) (rd_row (base := w2.heap.size) (e := TIs) (by repeat (first | with_reducible exact hown3 | ((with_reducible refine own_freshM _ _ _ _ _ _ ?_ ?_ ?_) <;> (first | (simp; done) | omega | (simp; omega))) | ((with_reducible refine own_fresh0 _ _ _ _ ?_ ?_) <;> (first | (simp; done) | omega | (simp; omega))) | ((with_reducible refine own_fresh1 _ _ _ _ _ ?_ ?_) <;> (first | (simp; done) | omega | (simp; omega))) | with_reducible refine World.ownsRow.drew ?_ | with_reducible refine World.ownsRow.alloc ?_ _ | (with_reducible refine keep_kind hold3 hgr3 ?_ ?_; decide) | (with_reducible refine World.ownsRow.kept ?_ hgr3 (Or.inr ?_); rotate_left; (simp [Value.ownBlock] <;> omega); rotate_right))) hbw) (row11_one _) (by unfold maxLen; omega) (by omega) (‹Below _ _ _›.size) (fun v5 w5 hold5 hown5 hgr5 => ?_); have hodd := odd_fin hbw hold5 hgr5 hown5 (by repeat (first | with_reducible exact hown3 | ((with_reducible refine own_freshM _ _ _ _ _ _ ?_ ?_ ?_) <;> (first | (simp; done) | omega | (simp; omega))) | ((with_reducible refine own_fresh0 _ _ _ _ ?_ ?_) <;> (first | (simp; done) | omega | (simp; omega))) | ((with_reducible refine own_fresh1 _ _ _ _ _ ?_ ?_) <;> (first | (simp; done) | omega | (simp; omega))) | with_reducible refine World.ownsRow.drew ?_ | with_reducible refine World.ownsRow.alloc ?_ _ | (with_reducible refine keep_kind hold3 hgr3 ?_ ?_; decide) | (with_reducible refine World.ownsRow.kept ?_ hgr3 (Or.inr ?_); rotate_left; (simp [Value.ownBlock] <;> omega); rotate_right)))))
    all_goals
      have HB5 : Below w2.heap.size w2 w5 := by assumption
      obtain ⟨A5, c5, rfl, hx5⟩ := odd_mx hodd (fun r hr => (RA2.out r hr).below HB5)
      have HO := Lib.hid (show OddAt b len0 F La w (.slice A5 (len0 + 1) c5) w5 from ⟨A5, c5, rfl, hx5, HL.out.below HB5⟩)
      clear hx5 HB5 hodd hold3 hown3 hgr3 hold5 hown5 hgr5 hs3 hmk HL RA RA2 HZ
      go_wp2_with fail
      go_meet
      case rel => exact HO.out
  case rest =>
    obtain ⟨A5, c5, rfl, hx5, hl5⟩ := hcut
    have HX5 := Lib.hid hx5
    have HL5 := Lib.hid hl5
    clear hx5 hl5 hmk HL RA RA2 HZ
    go_wp2_with fail
    refine (mmul_nil a0 a0 len0 len0 cap0 cap0 _).mono ?_
    rintro e w6 ⟨rfl, hb6⟩
    have HX6 := Lib.hid (HX5.out.below hb6)
    have HL6 := Lib.hid (HL5.out.below hb6)
    clear hb6 HX5 HL5
    go_wp2_with fail
    refine (join14 b 16 _ hkd F (oddF len0 F) La (oddL len0 La) a0 A5 len0 (len0 + 1) cap0 c5 _ HL6.out.1.c0 (KEEP.out _ HL6.out) HX6.out).mono ?_
    rintro e w7 ⟨t7, v7, rfl, ht7, hv7⟩
    obtain ⟨A7, c7, rfl, _, _, hb7⟩ := hv7
    have HX7 := Lib.hid (HX6.out.below hb7)
    have HL7 := Lib.hid (HL6.out.below hb7)
    have HT7 := Lib.hid (show len0 ≠ 0 → errOf t7 = 1 from fun h0 => by
      cases t7
      · rfl
      · exact absurd (ht7.1 rfl).2.1 (odd_no h0 HLS.out))
    generalize errOf t7 = x7 at *
    generalize cond t7 (len0 + (len0 + 1)) 0 = n7 at *
    have hbw7 := HL7.out.1.lt
    clear ht7 hb7 HX6 HL6
    go_wp2_with fail
    refine (pick12 b 16 _ hkd (oddF len0 F) (oddL len0 La) A5 _ (len0 + 1) 1 c5 1 (fun _ => 0) _ (HL7.out.below (below_alloc w7 _)).1.c0 (HX7.out.below (below_alloc w7 _)) (rd_nought hbw7)).mono ?_
    rintro e w8 ⟨t8, v8, rfl, ht8, hv8⟩
    obtain ⟨A8, c8, rfl, _, _, hb8⟩ := hv8
    have HL8 := Lib.hid (((HL7.out.below (below_alloc w7 _))).below hb8)
    have HT8 := Lib.hid (show len0 ≠ 0 → errOf t8 = 1 from fun h0 => by
      cases t8
      · rfl
      · exact absurd (ht8.1 rfl).1 (odd_no h0 HLS.out))
    generalize errOf t8 = x8 at *
    generalize cond t8 1 0 = n8 at *
    clear ht8 hb8 HX7 HL7 hbw7
    by_cases hn0' : len0 = 0
    · have hb0 : (((len0 : Nat) : Int) == 0) = true := by simp [hn0']
      clear hn0' HT7 HT8
      rcases Int.lt_or_le a1 1 with h1 | h1
      · have hd1 : decide (a1 < 1) = true := by simp [h1]
        have HI := Lib.hid (identity_no a1 (Or.inl h1) w8)
        clear h1
        go_wp2_with fail
        refine (may_nil a0 len0 cap0 _).mono ?_
        rintro e w' ⟨rfl, rfl⟩
        go_wp2_with fail
        refine (may_no b 16 _ hkd F La none 0 0 _ HL8.out.1.c0 Mx.zero (fun h => by have := h.1.1; omega)).mono ?_
        rintro e w' ⟨rfl, rfl⟩
        go_wp2_with fail
        refine HI.out.mono ?_
        rintro e w' ⟨rfl, rfl⟩
        go_wp2_with fail
        go_ret
        exact ⟨rfl, HL8.out.2.1⟩
      · rcases Int.lt_or_le 20 a1 with h2 | h2
        · have hd1 : decide (a1 < 1) = false := by simp; omega
          have hd2 : decide (20 < a1) = true := by simp [h2]
          have HI := Lib.hid (identity_no a1 (Or.inr h2) w8)
          clear h1 h2
          go_wp2_with fail
          refine (may_nil a0 len0 cap0 _).mono ?_
          rintro e w' ⟨rfl, rfl⟩
          go_wp2_with fail
          refine (may_no b 16 _ hkd F La none 0 0 _ HL8.out.1.c0 Mx.zero (fun h => by have := h.1.1; omega)).mono ?_
          rintro e w' ⟨rfl, rfl⟩
          go_wp2_with fail
          refine HI.out.mono ?_
          rintro e w' ⟨rfl, rfl⟩
          go_wp2_with fail
          go_ret
          exact ⟨rfl, HL8.out.2.1⟩
        · obtain ⟨m, rfl⟩ : ∃ m : Nat, a1 = m := ⟨a1.toNat, by omega⟩
          have hd1 : decide (((m : Nat) : Int) < 1) = false := by simp; omega
          have hd2 : decide (20 < ((m : Nat) : Int)) = false := by simp; omega
          have hm0 : (((m : Nat) : Int) == 0) = false := by simp; omega
          have HI := Lib.hid (identity_yes m ⟨by omega, by omega⟩ w8)
          clear h1 h2
          go_wp2_with fail
          refine (may_nil a0 len0 cap0 _).mono ?_
          rintro e w' ⟨rfl, rfl⟩
          go_wp2_with fail
          refine (may_no b 16 _ hkd F La none 0 0 _ HL8.out.1.c0 Mx.zero (fun h => by have := h.1.1; omega)).mono ?_
          rintro e w' ⟨rfl, rfl⟩
          go_wp2_with fail
          refine HI.out.mono ?_
          rintro e w9 ⟨v9, rfl, A9, c9, rfl, _, _, hb9⟩
          have HB := Lib.hid (below_tr HL8.out.2.1 hb9)
          clear hb9
          go_wp2_with fail
          go_ret
          exact ⟨rfl, HB.out⟩
    · have hb0 : (((len0 : Nat) : Int) == 0) = false := by simp; omega
      obtain rfl : x7 = 1 := HT7.out hn0'
      obtain rfl : x8 = 1 := HT8.out hn0'
      clear hn0' HT7 HT8
      rcases Int.lt_or_le a1 1 with h1 | h1
      · have hd1 : decide (a1 < 1) = true := by simp [h1]
        have HI := Lib.hid (identity_no a1 (Or.inl h1) w8)
        clear h1
        go_wp2_with fail
        refine (may_nil a0 len0 cap0 _).mono ?_
        rintro e w' ⟨rfl, rfl⟩
        go_wp2_with fail
        refine (may_no b 16 _ hkd F La none 0 0 _ HL8.out.1.c0 Mx.zero (fun h => by have := h.1.1; omega)).mono ?_
        rintro e w' ⟨rfl, rfl⟩
        go_wp2_with fail
        refine HI.out.mono ?_
        rintro e w' ⟨rfl, rfl⟩
        go_wp2_with fail
        go_ret
        exact ⟨rfl, HL8.out.2.1⟩
      · rcases Int.lt_or_le 20 a1 with h2 | h2
        · have hd1 : decide (a1 < 1) = false := by simp; omega
          have hd2 : decide (20 < a1) = true := by simp [h2]
          have HI := Lib.hid (identity_no a1 (Or.inr h2) w8)
          clear h1 h2
          go_wp2_with fail
          refine (may_nil a0 len0 cap0 _).mono ?_
          rintro e w' ⟨rfl, rfl⟩
          go_wp2_with fail
          refine (may_no b 16 _ hkd F La none 0 0 _ HL8.out.1.c0 Mx.zero (fun h => by have := h.1.1; omega)).mono ?_
          rintro e w' ⟨rfl, rfl⟩
          go_wp2_with fail
          refine HI.out.mono ?_
          rintro e w' ⟨rfl, rfl⟩
          go_wp2_with fail
          go_ret
          exact ⟨rfl, HL8.out.2.1⟩
        · obtain ⟨m, rfl⟩ : ∃ m : Nat, a1 = m := ⟨a1.toNat, by omega⟩
          have hd1 : decide (((m : Nat) : Int) < 1) = false := by simp; omega
          have hd2 : decide (20 < ((m : Nat) : Int)) = false := by simp; omega
          have hm0 : (((m : Nat) : Int) == 0) = false := by simp; omega
          have HI := Lib.hid (identity_yes m ⟨by omega, by omega⟩ w8)
          clear h1 h2
          go_wp2_with fail
          refine (may_nil a0 len0 cap0 _).mono ?_
          rintro e w' ⟨rfl, rfl⟩
          go_wp2_with fail
          refine (may_no b 16 _ hkd F La none 0 0 _ HL8.out.1.c0 Mx.zero (fun h => by have := h.1.1; omega)).mono ?_
          rintro e w' ⟨rfl, rfl⟩
          go_wp2_with fail
          refine HI.out.mono ?_
          rintro e w9 ⟨v9, rfl, A9, c9, rfl, _, _, hb9⟩
          have HB := Lib.hid (below_tr HL8.out.2.1 hb9)
          clear hb9
          go_wp2_with fail
          go_ret
          exact ⟨rfl, HB.out⟩

set_option maxRecDepth 100000 in
theorem lifted (os : Os) (started : os.Started) (H : Type) (enc : TypeId × Value → H) :
    ReturnsInHanded {} Try.checked os 8 .any (Rows.matrixNobodySpec.pre6 enc Try.prog Try.f8 Rows.matrixNobodyRow.domain false) (Rows.matrixNobodySpec.post enc Try.prog Try.f8 false true false false) := by
  refine returnsInHanded_of_change (C := Try.checked) own started (by kernel_rfl) Try.func8
    (ChangeSpec.witness6 (enc := enc) (C := Try.checked) false ⟨#[], #[.slice none 0 0, .int .i64 0], []⟩ 8 (by kernel_rfl) (by kernel_rfl) (by kernel_rfl) (by kernel_rfl)) ?_
  intro W base args ds gs before hval0 hW hcnd _
  have hval : ∀ (j : Nat) t v, Try.f8.params[j]? = some t → args[j]? = some v → Value.okWide Try.prog W .any base t v := hval0
  have hW' := hW
  obtain ⟨p, q, hA0, hV, rfl, hfz, hnd⟩ := hW
  have hA : DataW.TrodAll enc Try.prog W 0 (fun _ => true) true Try.f8.params.toList args.toList ds p := hA0
  rw [Try.params8] at hA hval
  obtain ⟨v0, vs0, d0, ds0, p0, q0, hargs, rfl, rfl, h0, r0⟩ := trodAll_cons hA
  obtain ⟨v1, vs1, d1, ds1, p1, q1, rfl, rfl, rfl, h1, r1⟩ := trodAll_cons r0
  obtain ⟨rfl, rfl, rfl⟩ := trodAll_nil r1
  obtain rfl : args = #[v0, v1] := by cases args; simp_all
  obtain ⟨rfl, rfl⟩ := trodVars_none hV
  obtain ⟨a0, len0, cap0, rfl⟩ := okWide_slice Try.underlying22 (hval 0 22 v0 rfl rfl)
  have k0 := h0
  have lt0 : ∀ x ∈ p0, x.block < W.heap.size := by obtain ⟨m, hm⟩ := k0; exact DataW.trod_lt m _ _ _ hm
  have w0 : IsMat W a0 len0 cap0 := by
    obtain ⟨fuel, hf⟩ := h0
    exact mat_in hf
  obtain ⟨a1, rfl, rfl, rfl, w1⟩ := open_int Try.underlying3 (hval 1 3 v1 rfl rfl) h1
  clear hA0 hval0
  refine (walk a0 len0 cap0 a1 W w0 w1).mono fun e W' ⟨he, bel⟩ => ?_
  subst he
  exact ⟨_, rfl, _, _, _, [], _, [], hW', trodAll_mk1 (shut_bool Try.underlying4 _), (trodAll_cons_mk (Below.trod laidOut (by kernel_rfl) (of_decide_eq_true (by kernel_rfl)) k0 bel lt0) (trodAll_cons_mk (shut_int Try.underlying3 w1) trodAll_mk0)), rfl, bel.frame _, fun h => by cases h⟩

theorem over : Rows.matrixNobodyRow.holds Try.pinned (OpenSpec.ofChange Rows.matrixNobodySpec) :=
  OpenClaim.holds_of_wide 8 Try.f8 rfl rfl rfl rfl rfl rfl rfl ⟨rfl, rfl, rfl, rfl, rfl⟩ rfl rfl rfl rfl rfl (by kernel_rfl) Try.func8 (by kernel_rfl)
    (of_decide_eq_true (by kernel_rfl)) (by unfold Func.isWrapper; first | (rw [if_pos (by decide +kernel)]; kernel_rfl) | (rw [if_neg (by decide +kernel)]; exact ⟨rfl, rfl⟩))
    (fun os started H enc _ => lifted os started H enc)

theorem proved : Rows.MatrixNobodySaid := over
end Go.Proofs.Ytomlfmfahlcedaa.matrixNobody
