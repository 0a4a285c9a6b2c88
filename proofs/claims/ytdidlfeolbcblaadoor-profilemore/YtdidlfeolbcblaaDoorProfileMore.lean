/- ProfileMore: for all three bytes, with a parity shard more the rows of ISA-L's profiles, and of both that begin with the identity, stay. Condition: the package-level variable gambrel/profile.table holds, when the call begins, what the text of the program lays there; the card ties that to the text, over the pruned copy of the project that the seat holds. -/
import Derived.Test.YtdidlfeolbcblaaDoorRows
import Derived.Test.YtdidlfeolbcblaaDoorPrh
import Derived.Test.YtdidlfeolbcblaaDoorPre
import Derived.Test.YtdidlfeolbcblaaDoorGxv
import Derived.Test.YtdidlfeolbcblaaDoorGxv
import Derived.Test.YtdidlfeolbcblaaDoorArr
import Derived.Test.YtdidlfeolbcblaaDoorCards
import Derived.Test.YtdidlfeolbcblaaDoorTie
import Derived.SevenTiedAt
import Derived.ChangeMaps5
import Derived.Deep.RegionHeld3
import Derived.WalkKit
import Derived.ProofKit
import Derived.OpenShut
import Derived.ShutString
import Derived.ChangeOld
import Derived.Below
namespace Go.Proofs.YtdidlfeolbcblaaDoor.profileMore
open Go.ChangeShapes Go.WideShapes Go.ChangeAt Go.RowKit
set_option linter.unusedVariables false

theorem own : ownKnob Tryd.prog.godebug = none := by kernel_rfl
theorem laidOut : laidOutB Tryd.prog = true := by kernel_rfl

/-- the rows of a profile that don't hang on how many there are -/
theorem more_rows {P : Int} (hP : P = 3 ∨ P = 4 ∨ P = 5 ∨ P = 6) (k n : Nat) : ivs (rowsE P k n) = ivs (rowsE P k (n + 1)) := by
  rcases hP with rfl | rfl | rfl | rfl
  · exact (show ivs (rowsE 3 k n) = ivs (isalE (qP 3)) from rfl).trans (show ivs (rowsE 3 k (n + 1)) = ivs (isalE (qP 3)) from rfl).symm
  · exact (show ivs (rowsE 4 k n) = ivs (ofE (qP 4) (frm k) (frm 0)) from rfl).trans (show ivs (rowsE 4 k (n + 1)) = ivs (ofE (qP 4) (frm k) (frm 0)) from rfl).symm
  · exact (show ivs (rowsE 5 k n) = ivs (fun i j => sysE (qP 5) k (k + i) j) from rfl).trans (show ivs (rowsE 5 k (n + 1)) = ivs (fun i j => sysE (qP 5) k (k + i) j) from rfl).symm
  · exact (show ivs (rowsE 6 k n) = ivs (fun i j => sysE (qP 6) k (k + i) j) from rfl).trans (show ivs (rowsE 6 k (n + 1)) = ivs (fun i j => sysE (qP 6) k (k + i) j) from rfl).symm

set_option maxRecDepth 100000 in
set_option maxHeartbeats 8000000 in
theorem walk (a0 a1 a2 : Int) (w : World) (w0 : 0 ≤ a0 ∧ a0 ≤ 255) (w1 : 0 ≤ a1 ∧ a1 ≤ 255) (w2 : 0 ≤ a2 ∧ a2 ≤ 255) (hT : Tab w) :
    Calls Tryd.prog 3 #[.int .u8 a0, .int .u8 a1, .int .u8 a2] w fun e w' => e = .returned (.bool true) ∧ Below w.heap.size w w' := by
  obtain ⟨a00, a01⟩ := w0
  obtain ⟨a10, a11⟩ := w1
  obtain ⟨a20, a21⟩ := w2
  obtain ⟨r, hr, r4⟩ : ∃ r : Nat, a0 % 4 = (r : Int) ∧ r < 4 := ⟨(a0 % 4).toNat, by omega, by omega⟩
  obtain ⟨P, hP, P36⟩ : ∃ P : Int, (r : Int) + 3 = P ∧ (P = 3 ∨ P = 4 ∨ P = 5 ∨ P = 6) := ⟨_, rfl, by omega⟩
  obtain ⟨K, hK, k1, k2⟩ : ∃ K : Nat, 1 + a1 % 8 = (K : Int) ∧ 1 ≤ K ∧ K ≤ 8 := ⟨(1 + a1 % 8).toNat, by omega, by omega, by omega⟩
  obtain ⟨N, hN, n1, n2⟩ : ∃ N : Nat, 1 + a2 % 3 = (N : Int) ∧ 1 ≤ N ∧ N ≤ 3 := ⟨(1 + a2 % 3).toNat, by omega, by omega, by omega⟩
  have hm := max_pos (p := P) (by omega)
  have XX := Lib.hid (show mayX P K N from ⟨by omega, ⟨by omega, by omega⟩, by omega, by omega⟩)
  have HR := Lib.hid (more_rows P36 K N)
  have N4 := Lib.hid n2
  have K8 := Lib.hid k2
  have HT := Lib.hid hT
  clear hT k1 k2 n1 n2 hm P36
  go_enter Tryd.func3, Tryd.ntmps3
  go_wp2_with fail
  refine (awakeP _ HT.out).mono ?_
  rintro e w1 ⟨rfl, hb1⟩
  have H1 := Lib.hid hb1
  have HT1 := Lib.hid (HT.out.below hb1)
  clear hb1 HT
  obtain ⟨v0, hv0⟩ : ∃ v0, w1.alloc (.cells #[.int .i64 3, .int .i64 4, .int .i64 5, .int .i64 6] TI) = v0 := ⟨_, rfl⟩
  obtain ⟨s0, e0, hbv0⟩ := one_box hv0
  have hcr : v0.cell? ⟨w1.heap.size, r, none⟩ = some (.int .i64 P) := by
    rw [← hP]
    refine box_at e0 ?_
    match r, r4 with
    | 0, _ => rfl
    | 1, _ => rfl
    | 2, _ => rfl
    | 3, _ => rfl
  have HB0 := Lib.hid (below_tr H1.out hbv0)
  have HT0 := Lib.hid (HT1.out.below hbv0)
  clear s0 e0 hbv0 H1 HT1 hP
  go_wp2_with fail
  obtain ⟨v, hv⟩ : ∃ v, (v0.alloc (.cells #[.int .i64 P, .int .i64 K, .int .i64 N] TPa)).alloc (.cells #[.int .i64 P, .int .i64 K, .int .i64 ((N : Int) + 1)] TPa) = v := ⟨_, rfl⟩
  rw [hv]
  obtain ⟨s1, e1, e2, hbv⟩ := two_boxes hv
  have HTV := Lib.hid (HT0.out.below hbv)
  have HV := Lib.hid (below_tr HB0.out hbv)
  obtain ⟨gy, hgy⟩ : ∃ gy, v0.heap.size + 1 = gy := ⟨_, rfl⟩
  simp only [hgy] at e2 ⊢
  have KEEP := Lib.hid (show ∀ w', Below v.heap.size v w' → w'.heap[gy]? = some (.cells (parA P K ((N : Int) + 1)) TPa (0, 0)) ∧ Tab w' ∧ Below w.heap.size w w' from
    fun w' h => ⟨kept_box e2 h, HTV.out.below h, below_tr HV.out h⟩)
  clear s1 e1 e2 hbv hv hgy hcr hv0 HB0 HT0 HV hK hN a00 a01 a10 a11 a20 a21 hr
  refine (par12 P K N _ HTV.out).mono ?_
  rintro e w3 ⟨t, A3, c3, g3, rfl, ht, _, hx3, hg3, hb3⟩
  obtain rfl : t = true := ht.2 XX.out
  obtain ⟨y3, kT, _⟩ := KEEP.out _ hb3
  simp only [cond, errOf, if_true, Int.toNat_natCast] at hx3 ⊢
  have X3 := Lib.hid hx3
  have H3 := Lib.hid hb3
  have KT := Lib.hid kT
  clear ht hx3 hg3 hb3 kT HTV XX
  go_wp2_with (refine wpList_load_row rfl TPa _ rfl gy rfl TPa _ (0, 0) _ y3 Tryd.underlying25 rfl size3 ?_)
  refine (par12 P K ((N : Int) + 1) _ KT.out).mono ?_
  rintro e w4 ⟨t, A4, c4, g5, rfl, ht, hc4, hx4, hg4, hb4⟩
  have H4 := Lib.hid (below_tr H3.out hb4)
  obtain ⟨y4, kT, kB⟩ := KEEP.out _ H4.out
  have X4 := Lib.hid (X3.out.below hb4)
  have KT4 := Lib.hid kT
  cases t
  · have HM := Lib.hid (show ¬ mayX P K ((N : Int) + 1) from fun h => by have := ht.2 h; cases this)
    simp only [cond, errOf, if_neg (show ¬ (false = true) by decide)]
    clear ht hx4 hg4 hb4 hc4 kT kB KT H3 X3 y3
    go_wp2_with (refine wpList_load_row rfl TPa _ rfl gy rfl TPa _ (0, 0) _ y4 Tryd.underlying25 rfl size3 ?_)
    refine (may15 P K ((N : Int) + 1) _ KT4.out).mono ?_
    rintro e w5 ⟨t, rfl, ht, hb5⟩
    obtain rfl : t = false := by cases t; rfl; exact absurd (ht.1 rfl) HM.out
    have HE := Lib.hid (KEEP.out _ (below_tr H4.out hb5)).2.2
    clear ht hb5
    go_wp2_with fail
    go_ret
    exact ⟨rfl, HE.out⟩
  · have HM := Lib.hid (ht.1 rfl)
    have hN1 : ((N : Int) + 1).toNat = N + 1 := by omega
    simp only [cond, errOf, if_true, hN1, Int.toNat_natCast] at hx4 hc4 ⊢
    have Y4 := Lib.hid (hx4.take (show N ≤ N + 1 by omega))
    clear ht hx4 hg4 hb4 kT kB KT H3 X3 y3 hN1
    go_wp2_with (refine wpList_load_row rfl TPa _ rfl gy rfl TPa _ (0, 0) _ y4 Tryd.underlying25 rfl size3 ?_)
    refine (may15 P K ((N : Int) + 1) _ KT4.out).mono ?_
    rintro e w5 ⟨t, rfl, ht, hb5⟩
    obtain rfl : t = true := ht.2 HM.out
    have HB := Lib.hid (below_tr H4.out hb5)
    have g4 : N ≤ c4 := by omega
    have hn3 := N4.out
    have hne : ((((N + 1 : Nat)) : Int) != (N : Int) + 1) = false := by simp
    have C5 := Lib.hid (same19 g5 g3 _ _ _ _ A4 A3 N c4 c3 (by have := N4.out; omega) (fun _ _ => by have := K8.out; omega) w5 (Y4.out.below hb5) (X4.out.below hb5) (fun _ _ => rfl) (fun r _ j _ => by rw [HR.out]))
    clear ht hb5 y4 X4 Y4 H4 KT4 HM
    go_wp2_with fail
    refine C5.out.mono ?_
    rintro e w6 ⟨rfl, q6, rfl⟩
    have HE := Lib.hid (KEEP.out _ (below_tr HB.out (below_drewN' w5 q6))).2.2
    clear C5 HB KEEP
    go_wp2_with fail
    go_ret
    exact ⟨rfl, HE.out⟩

set_option maxRecDepth 100000 in
theorem lifted (os : Os) (started : os.Started) (H : Type) (enc : TypeId × Value → H) :
    ReturnsInHanded {} Tryd.checked os 3 .any (fun w args => (Rows.profileMoreSpec.pre enc Tryd.prog Tryd.f3 Rows.profileMoreRow.domain false w args ∧ laidMetH Tryd.prog laidT w) ∧ sizedMet enc Tryd.prog Tryd.f3 (OpenSpec.ofChange Rows.profileMoreSpec) false w args) (Rows.profileMoreSpec.post enc Tryd.prog Tryd.f3 false true false false) := by
  refine returnsInHanded_of_change_and (C := Tryd.checked) (X := fun w _ => laidMetH Tryd.prog laidT w) (fun _ _ _ hh h => h.of_heap hh) own started (by kernel_rfl) Tryd.func3
    (ChangeSpec.witness_shaped (enc := enc) (C := Tryd.checked) (os := os) (X := fun w _ => laidMetH Tryd.prog laidT w) false (World.doorLaid Tryd.prog 400 os) #[.int .u8 0, .int .u8 0, .int .u8 0] 8 rfl (World.shaped_of_RefB (by kernel_rfl) (by kernel_rfl)) (by kernel_rfl) (by kernel_rfl) (by kernel_rfl) (door_met os _)) ?_
  intro W base args ds gs before hval0 hW hcnd _ hL _
  have hval : ∀ (j : Nat) t v, Tryd.f3.params[j]? = some t → args[j]? = some v → Value.okWide Tryd.prog W .any base t v := hval0
  have hW' := hW
  obtain ⟨p, q, hA0, hV, rfl, hfz, hnd⟩ := hW
  have hA : DataW.TrodAll enc Tryd.prog W 0 (fun _ => true) true Tryd.f3.params.toList args.toList ds p := hA0
  rw [Tryd.params3] at hA hval
  obtain ⟨v0, vs0, d0, ds0, p0, q0, hargs, rfl, rfl, h0, r0⟩ := trodAll_cons hA
  obtain ⟨v1, vs1, d1, ds1, p1, q1, rfl, rfl, rfl, h1, r1⟩ := trodAll_cons r0
  obtain ⟨v2, vs2, d2, ds2, p2, q2, rfl, rfl, rfl, h2, r2⟩ := trodAll_cons r1
  obtain ⟨rfl, rfl, rfl⟩ := trodAll_nil r2
  obtain rfl : args = #[v0, v1, v2] := by cases args; simp_all
  obtain ⟨rfl, rfl⟩ := trodVars_none hV
  obtain ⟨a0, rfl, rfl, rfl, w0⟩ := open_int Tryd.underlying5 (hval 0 5 v0 rfl rfl) h0
  obtain ⟨a1, rfl, rfl, rfl, w1⟩ := open_int Tryd.underlying5 (hval 1 5 v1 rfl rfl) h1
  obtain ⟨a2, rfl, rfl, rfl, w2⟩ := open_int Tryd.underlying5 (hval 2 5 v2 rfl rfl) h2
  clear hA0 hval0
  refine (walk a0 a1 a2 W (bounds_u8 w0) (bounds_u8 w1) (bounds_u8 w2) (tab_of_laid hL)).mono fun e W' ⟨he, bel⟩ => ?_
  subst he
  exact ⟨_, rfl, _, _, _, [], _, [], hW', trodAll_mk1 (shut_bool Tryd.underlying4 _), (trodAll_cons_mk (shut_int Tryd.underlying5 w0) (trodAll_cons_mk (shut_int Tryd.underlying5 w1) (trodAll_cons_mk (shut_int Tryd.underlying5 w2) trodAll_mk0))), rfl, bel.frame _, fun h => by cases h⟩

theorem over : Rows.profileMoreRow.holds Tryd.pinned (OpenSpec.ofChange Rows.profileMoreSpec) :=
  OpenClaim.holds_of_wide 3 Tryd.f3 rfl rfl rfl rfl rfl rfl rfl ⟨rfl, rfl, rfl, rfl, rfl⟩ rfl rfl rfl rfl rfl (by kernel_rfl) Tryd.func3 (by kernel_rfl)
    (of_decide_eq_true (by kernel_rfl)) (by unfold Func.isWrapper; first | (rw [if_pos (by decide +kernel)]; kernel_rfl) | (rw [if_neg (by decide +kernel)]; exact ⟨rfl, rfl⟩))
    (fun os started H enc _ => lifted os started H enc)

theorem proved : Rows.ProfileMoreCardSaid :=
  Claim7.holds_tied_plain_at .later [] [.data] true Rows.profileMoreCard.stood.harness false
    over (fun _ h => by cases h) (by kernel_rfl) (fun _ h => by cases h) profileMore_row_tie rfl ⟨rfl, rfl⟩ (by kernel_rfl) rfl
    (fun f fn hf hfn => by
      obtain rfl : f = 3 := Option.some.inj ((show Tryd.prog.funcNamed "gambrel/gambrellaw09.ProfileMore" = some 3 by kernel_rfl).symm.trans hf) |>.symm
      obtain rfl : fn = Tryd.f3 := (Option.some.inj (Tryd.func3.symm.trans hfn)).symm
      exact ⟨by kernel_rfl, fun j t ht => by
        rw [Tryd.params3] at ht
        have hm : t ∈ [5, 5, 5] := by simpa using Array.mem_of_getElem? ht
        have hall : ([5, 5, 5].all fun u => !Tryd.prog.wantsStandIn u) = true := by kernel_rfl
        exact (show Tryd.prog.wantsStandIn t = false by simpa using List.all_eq_true.1 hall t hm)⟩)
    (by kernel_rfl)
end Go.Proofs.YtdidlfeolbcblaaDoor.profileMore
