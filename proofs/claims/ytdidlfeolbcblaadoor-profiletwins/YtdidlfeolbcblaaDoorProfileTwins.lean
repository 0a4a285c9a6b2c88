/- ProfileTwins: for all two bytes, Backblaze's and klauspost's profiles have the same parity rows, and other layouts and tags. Condition: the package-level variable gambrel/profile.table holds, when the call begins, what the text of the program lays there; the card ties that to the text, over the pruned copy of the project that the seat holds. -/
import Derived.Test.YtdidlfeolbcblaaDoorRows
import Derived.Test.YtdidlfeolbcblaaDoorPrh
import Derived.Test.YtdidlfeolbcblaaDoorPre
import Derived.Test.YtdidlfeolbcblaaDoorGxv
import Derived.Test.YtdidlfeolbcblaaDoorGxv
import Derived.Test.YtdidlfeolbcblaaDoorArr
import Derived.Test.YtdidlfeolbcblaaDoorCards
import Derived.Test.YtdidlfeolbcblaaDoorTie
import Derived.SevenTiedAt
import Derived.ChangeMaps5
import Derived.Deep.RegionHeld3
import Derived.WalkKit
import Derived.ProofKit
import Derived.OpenShut
import Derived.ShutString
import Derived.ChangeOld
import Derived.Below
namespace Go.Proofs.YtdidlfeolbcblaaDoor.profileTwins
open Go.ChangeShapes Go.WideShapes Go.ChangeAt Go.RowKit
set_option linter.unusedVariables false

theorem own : ownKnob Tryd.prog.godebug = none := by kernel_rfl
theorem laidOut : laidOutB Tryd.prog = true := by kernel_rfl

theorem twin_rows (k m : Nat) : ivs (rowsE 5 k m) = ivs (rowsE 6 k m) := rfl

set_option maxRecDepth 100000 in
set_option maxHeartbeats 8000000 in
theorem walk (a0 a1 : Int) (w : World) (w0 : 0 ≤ a0 ∧ a0 ≤ 255) (w1 : 0 ≤ a1 ∧ a1 ≤ 255) (hT : Tab w) :
    Calls Tryd.prog 4 #[.int .u8 a0, .int .u8 a1] w fun e w' => e = .returned (.bool true) ∧ Below w.heap.size w w' := by
  obtain ⟨a00, a01⟩ := w0
  obtain ⟨a10, a11⟩ := w1
  obtain ⟨K, hK, k1, k2⟩ : ∃ K : Nat, 1 + a0 % 8 = (K : Int) ∧ 1 ≤ K ∧ K ≤ 8 := ⟨(1 + a0 % 8).toNat, by omega, by omega, by omega⟩
  obtain ⟨N, hN, n1, n2⟩ : ∃ N : Nat, 1 + a1 % 4 = (N : Int) ∧ 1 ≤ N ∧ N ≤ 4 := ⟨(1 + a1 % 4).toNat, by omega, by omega, by omega⟩
  have X5 := Lib.hid (show mayX 5 K N from ⟨by omega, ⟨by omega, by omega⟩, by omega, by have : maxI 5 = 4 := rfl; omega⟩)
  have X6 := Lib.hid (show mayX 6 K N from ⟨by omega, ⟨by omega, by omega⟩, by omega, by have : maxI 6 = 4 := rfl; omega⟩)
  have N4 := Lib.hid n2
  have K8 := Lib.hid k2
  have HT := Lib.hid hT
  clear hT k1 k2 n1 n2
  go_enter Tryd.func4, Tryd.ntmps4
  go_wp2_with fail
  refine (awakeP _ HT.out).mono ?_
  rintro e w1 ⟨rfl, hb1⟩
  have H1 := Lib.hid hb1
  have HT1 := Lib.hid (HT.out.below hb1)
  clear hb1 HT
  go_wp2_with fail
  obtain ⟨v, hv⟩ : ∃ v, (w1.alloc (.cells #[.int .i64 5, .int .i64 K, .int .i64 N] TPa)).alloc (.cells #[.int .i64 6, .int .i64 K, .int .i64 N] TPa) = v := ⟨_, rfl⟩
  rw [hv]
  obtain ⟨s1, e1, e2, hbv⟩ := two_boxes hv
  have HTV := Lib.hid (HT1.out.below hbv)
  have HV := Lib.hid (below_tr H1.out hbv)
  have KEEP := Lib.hid (show ∀ w', Below v.heap.size v w' → w'.heap[w1.heap.size]? = some (.cells (parA 5 K N) TPa (0, 0)) ∧ w'.heap[w1.heap.size + 1]? = some (.cells (parA 6 K N) TPa (0, 0)) ∧ Tab w' ∧ Below w.heap.size w w' from
    fun w' h => ⟨kept_box e1 h, kept_box e2 h, HTV.out.below h, below_tr HV.out h⟩)
  clear s1 e1 e2 hbv hv H1 HT1 HV hK hN a00 a01 a10 a11
  refine (par12 5 K N _ HTV.out).mono ?_
  rintro e w3 ⟨t, A3, c3, g3, rfl, ht, _, hx3, hg3, hb3⟩
  obtain rfl : t = true := ht.2 X5.out
  obtain ⟨_, y3, kT, _⟩ := KEEP.out _ hb3
  simp only [cond, errOf, if_true, Int.toNat_natCast] at hx3 ⊢
  have X3 := Lib.hid hx3
  have H3 := Lib.hid hb3
  have KT := Lib.hid kT
  clear ht hx3 hg3 hb3 kT HTV X5
  go_wp2_with (refine wpList_load_row rfl TPa _ rfl (w1.heap.size + 1) rfl TPa _ (0, 0) _ y3 Tryd.underlying25 rfl size3 ?_)
  refine (par12 6 K N _ KT.out).mono ?_
  rintro e w4 ⟨t, A4, c4, g4, rfl, ht, _, hx4, hg4, hb4⟩
  obtain rfl : t = true := ht.2 X6.out
  simp only [cond, errOf, if_true, Int.toNat_natCast] at hx4 ⊢
  have H4 := Lib.hid (below_tr H3.out hb4)
  have X4 := Lib.hid (X3.out.below hb4)
  have Y4 := Lib.hid hx4
  obtain ⟨k1, _, kT, _⟩ := KEEP.out _ H4.out
  have f0 := box_at (i := 0) (x := .int .i64 5) k1 rfl
  have KT4 := Lib.hid kT
  clear ht hx4 hg4 hb4 kT k1 KT X6 y3 H3 X3
  go_wp2_with fail
  refine (of8 5 _ KT4.out).mono ?_
  rintro e w5 ⟨rfl, hb5⟩
  rw [row5, show isI 5 = true from rfl]
  obtain ⟨v5, hv5⟩ : ∃ v5, w5.alloc (.cells #[.string ⟨#[98, 98]⟩, .int .i64 8, .int .u32 285, .int .u8 98, .int .i64 4] TPr) = v5 := ⟨_, rfl⟩
  obtain ⟨s5, e5, hbv5⟩ := one_box hv5
  have hb5' := below_tr hb5 hbv5
  have H5 := Lib.hid (below_tr H4.out hb5')
  have X5 := Lib.hid (X4.out.below hb5')
  have Y5 := Lib.hid (Y4.out.below hb5')
  have P5 := Lib.hid e5
  obtain ⟨_, k2, kT, _⟩ := KEEP.out _ H5.out
  have f1 := box_at (i := 0) (x := .int .i64 6) k2 rfl
  have KT5 := Lib.hid kT
  clear hb5 hb5' hbv5 e5 s5 k2 kT KT4 f0 H4 X4 Y4
  go_wp2_with fail
  refine (of8 6 _ KT5.out).mono ?_
  rintro e w6 ⟨rfl, hb6⟩
  rw [row6, show isI 6 = true from rfl]
  obtain ⟨v6, hv6⟩ : ∃ v6, w6.alloc (.cells #[.string ⟨#[107, 112]⟩, .int .i64 8, .int .u32 285, .int .u8 112, .int .i64 4] TPr) = v6 := ⟨_, rfl⟩
  obtain ⟨s6, e6, hbv6⟩ := one_box hv6
  have hb6' := below_tr hb6 hbv6
  have H6 := Lib.hid (below_tr H5.out hb6')
  have P6 := Lib.hid (kept_box P5.out hb6')
  have Q6 := Lib.hid e6
  have C6 := Lib.hid (same19 g3 g4 _ _ _ _ A3 A4 N c3 c4 (by have := N4.out; omega) (fun _ _ => by have := K8.out; omega) v6 (X5.out.below hb6') (Y5.out.below hb6') (fun _ _ => rfl) (fun r _ j _ => by rw [twin_rows K N]))
  clear hb6 hb6' hbv6 e6 s6 KT5 f1 H5 X5 Y5 P5
  go_wp2_with fail
  refine C6.out.mono ?_
  rintro e w7 ⟨rfl, q7, rfl⟩
  have hb7 := below_drewN' v6 q7
  obtain ⟨w7, hw7⟩ : ∃ w7, v6.drewN q7 = w7 := ⟨_, rfl⟩
  rw [hw7] at hb7 ⊢
  obtain ⟨k1, _, _, kB⟩ := KEEP.out _ (below_tr H6.out hb7)
  have f2 := box_at (i := 2) (x := .int .i64 N) k1 rfl
  have p7 := kept_box P6.out hb7
  have q7 := kept_box Q6.out hb7
  have p0 := box_at (i := 0) (x := .string ⟨#[98, 98]⟩) p7 rfl
  have p3 := box_at (i := 3) (x := .int .u8 98) p7 rfl
  have q0 := box_at (i := 0) (x := .string ⟨#[107, 112]⟩) q7 rfl
  have q3 := box_at (i := 3) (x := .int .u8 112) q7 rfl
  have HE := Lib.hid kB
  clear k1 p7 q7 kB hb7 hw7 P6 Q6 C6 H6 KEEP hv6
  go_wp2_with fail
  go_ret
  exact ⟨rfl, HE.out⟩

set_option maxRecDepth 100000 in
theorem lifted (os : Os) (started : os.Started) (H : Type) (enc : TypeId × Value → H) :
    ReturnsInHanded {} Tryd.checked os 4 .any (fun w args => (Rows.profileTwinsSpec.pre enc Tryd.prog Tryd.f4 Rows.profileTwinsRow.domain false w args ∧ laidMetH Tryd.prog laidT w) ∧ sizedMet enc Tryd.prog Tryd.f4 (OpenSpec.ofChange Rows.profileTwinsSpec) false w args) (Rows.profileTwinsSpec.post enc Tryd.prog Tryd.f4 false true false false) := by
  refine returnsInHanded_of_change_and (C := Tryd.checked) (X := fun w _ => laidMetH Tryd.prog laidT w) (fun _ _ _ hh h => h.of_heap hh) own started (by kernel_rfl) Tryd.func4
    (ChangeSpec.witness_shaped (enc := enc) (C := Tryd.checked) (os := os) (X := fun w _ => laidMetH Tryd.prog laidT w) false (World.doorLaid Tryd.prog 400 os) #[.int .u8 0, .int .u8 0] 8 rfl (World.shaped_of_RefB (by kernel_rfl) (by kernel_rfl)) (by kernel_rfl) (by kernel_rfl) (by kernel_rfl) (door_met os _)) ?_
  intro W base args ds gs before hval0 hW hcnd _ hL _
  have hval : ∀ (j : Nat) t v, Tryd.f4.params[j]? = some t → args[j]? = some v → Value.okWide Tryd.prog W .any base t v := hval0
  have hW' := hW
  obtain ⟨p, q, hA0, hV, rfl, hfz, hnd⟩ := hW
  have hA : DataW.TrodAll enc Tryd.prog W 0 (fun _ => true) true Tryd.f4.params.toList args.toList ds p := hA0
  rw [Tryd.params4] at hA hval
  obtain ⟨v0, vs0, d0, ds0, p0, q0, hargs, rfl, rfl, h0, r0⟩ := trodAll_cons hA
  obtain ⟨v1, vs1, d1, ds1, p1, q1, rfl, rfl, rfl, h1, r1⟩ := trodAll_cons r0
  obtain ⟨rfl, rfl, rfl⟩ := trodAll_nil r1
  obtain rfl : args = #[v0, v1] := by cases args; simp_all
  obtain ⟨rfl, rfl⟩ := trodVars_none hV
  obtain ⟨a0, rfl, rfl, rfl, w0⟩ := open_int Tryd.underlying5 (hval 0 5 v0 rfl rfl) h0
  obtain ⟨a1, rfl, rfl, rfl, w1⟩ := open_int Tryd.underlying5 (hval 1 5 v1 rfl rfl) h1
  clear hA0 hval0
  refine (walk a0 a1 W (bounds_u8 w0) (bounds_u8 w1) (tab_of_laid hL)).mono fun e W' ⟨he, bel⟩ => ?_
  subst he
  exact ⟨_, rfl, _, _, _, [], _, [], hW', trodAll_mk1 (shut_bool Tryd.underlying4 _), (trodAll_cons_mk (shut_int Tryd.underlying5 w0) (trodAll_cons_mk (shut_int Tryd.underlying5 w1) trodAll_mk0)), rfl, bel.frame _, fun h => by cases h⟩

theorem over : Rows.profileTwinsRow.holds Tryd.pinned (OpenSpec.ofChange Rows.profileTwinsSpec) :=
  OpenClaim.holds_of_wide 4 Tryd.f4 rfl rfl rfl rfl rfl rfl rfl ⟨rfl, rfl, rfl, rfl, rfl⟩ rfl rfl rfl rfl rfl (by kernel_rfl) Tryd.func4 (by kernel_rfl)
    (of_decide_eq_true (by kernel_rfl)) (by unfold Func.isWrapper; first | (rw [if_pos (by decide +kernel)]; kernel_rfl) | (rw [if_neg (by decide +kernel)]; exact ⟨rfl, rfl⟩))
    (fun os started H enc _ => lifted os started H enc)

theorem proved : Rows.ProfileTwinsCardSaid :=
  Claim7.holds_tied_plain_at .later [] [.data] true Rows.profileTwinsCard.stood.harness false
    over (fun _ h => by cases h) (by kernel_rfl) (fun _ h => by cases h) profileTwins_row_tie rfl ⟨rfl, rfl⟩ (by kernel_rfl) rfl
    (fun f fn hf hfn => by
      obtain rfl : f = 4 := Option.some.inj ((show Tryd.prog.funcNamed "gambrel/gambrellaw09.ProfileTwins" = some 4 by kernel_rfl).symm.trans hf) |>.symm
      obtain rfl : fn = Tryd.f4 := (Option.some.inj (Tryd.func4.symm.trans hfn)).symm
      exact ⟨by kernel_rfl, fun j t ht => by
        rw [Tryd.params4] at ht
        have hm : t ∈ [5, 5] := by simpa using Array.mem_of_getElem? ht
        have hall : ([5, 5].all fun u => !Tryd.prog.wantsStandIn u) = true := by kernel_rfl
        exact (show Tryd.prog.wantsStandIn t = false by simpa using List.all_eq_true.1 hall t hm)⟩)
    (by kernel_rfl)
end Go.Proofs.YtdidlfeolbcblaaDoor.profileTwins
