/- ProfileAny: of all params that may be, any K rows of the identity, with the parity rows behind it, have an inverse. Condition: the package-level variable gambrel/profile.table holds, when the call begins, what the text of the program lays there; the card ties that to the text, over the pruned copy of the project that the seat holds. -/
import Derived.Test.YtdidlfeolbcblaaGreatDoorRows
import Derived.Test.YtdidlfeolbcblaaGreatDoorPrh
import Derived.Test.YtdidlfeolbcblaaGreatDoorPre
import Derived.Test.YtdidlfeolbcblaaGreatDoorGxv
import Derived.Test.YtdidlfeolbcblaaGreatDoorGxw
import Derived.Test.YtdidlfeolbcblaaGreatDoorGxv
import Derived.Test.YtdidlfeolbcblaaGreatDoorGxp
import Derived.Test.YtdidlfeolbcblaaGreatDoorGxm
import Derived.Test.YtdidlfeolbcblaaGreatDoorArr
import Derived.Test.YtdidlfeolbcblaaGreatDoorCards
import Derived.Test.YtdidlfeolbcblaaGreatDoorTie
import Derived.SevenTiedAt
import Derived.ChangeMaps5
import Derived.Deep.RegionHeld3
import Derived.WalkKit
import Derived.ProofKit
import Derived.OpenShut
import Derived.ShutString
import Derived.ChangeOld
import Derived.Below
namespace Go.Proofs.YtdidlfeolbcblaaGreatDoor.profileAny
open Go.ChangeShapes Go.WideShapes Go.ChangeAt Go.RowKit
set_option linter.unusedVariables false

theorem own : ownKnob Tryz.prog.godebug = none := by kernel_rfl
theorem laidOut : laidOutB Tryz.prog = true := by kernel_rfl

/-- the numbers of rows, as rows of the field -/
theorem join_rows {p : Int} (k m : Nat) : joinF k idF (ivs (rowsE p k m)) = ivs (joinE k dl (rowsE p k m)) := by
  funext r j
  unfold joinF ivs joinE
  by_cases h : r < k
  · rw [if_pos h, if_pos h]; exact idF_el (q := qP p) r j
  · rw [if_neg h, if_neg h]

set_option maxRecDepth 100000 in
set_option maxHeartbeats 8000000 in
theorem walk (a0 b0 c0 a1 c1 : Int) (w : World) (w0 : (0 ≤ a0 ∧ a0 ≤ 255) ∧ (0 ≤ b0 ∧ b0 ≤ 255) ∧ 0 ≤ c0 ∧ c0 ≤ 255) (w1 : (0 ≤ a1 ∧ a1 ≤ 255) ∧ 0 ≤ c1 ∧ c1 ≤ 255) (hT : Tab w) :
    Calls Tryz.prog 6 #[.agg (arr3 a0 b0 c0), .agg #[.int .u8 a1, .int .u8 c1]] w fun e w' => e = .returned (.bool true) ∧ Below w.heap.size w w' := by
  have HA := Lib.hid w0
  obtain ⟨⟨a10, a11⟩, c10, c11⟩ := w1
  obtain ⟨f, rfl⟩ := Int.eq_ofNat_of_zero_le a10
  obtain ⟨s, rfl⟩ := Int.eq_ofNat_of_zero_le c10
  have hf255 : f ≤ 255 := by omega
  have hs255 : s ≤ 255 := by omega
  obtain ⟨u, hu⟩ : ∃ u, (w.alloc (.cells #[.int .u8 a0, .int .u8 b0, .int .u8 c0] T3u)).alloc (.cells #[.int .u8 f, .int .u8 s] 56) = u := ⟨_, rfl⟩
  obtain ⟨s0, e0, e1, hbu⟩ := two_boxes hu
  have HTU := Lib.hid (hT.below hbu)
  have HU := Lib.hid hbu
  have E0 := Lib.hid e0
  have E1 := Lib.hid e1
  clear s0 e0 e1 hbu hT w0 a10 a11 c10 c11
  go_enter Tryz.func6, Tryz.ntmps6
  go_wp2_with fail
  refine (awakeP _ HTU.out).mono ?_
  rintro e w1 ⟨rfl, hb1⟩
  have H1 := Lib.hid (below_tr HU.out hb1)
  have HT1 := Lib.hid (HTU.out.below hb1)
  have y1 := kept_box E0.out hb1
  have E1 := Lib.hid (kept_box E1.out hb1)
  clear hb1 HTU HU E0 hu
  go_wp2_with (refine wpList_load_row rfl T3u _ rfl w.heap.size rfl T3u _ (0, 0) _ y1 Tryz.underlying51 rfl size3u ?_)
  refine (some20 a0 b0 c0 HA.out.1 HA.out.2.1 HA.out.2.2 _).mono ?_
  rintro e w2 ⟨p, k, m, rfl, hX, hb2⟩
  obtain ⟨K, N, rfl, rfl, sK, sN, hs, k8, n4⟩ := hX.nat
  have HX := Lib.hid hX
  have SK := Lib.hid sK
  have SN := Lib.hid sN
  have KN := Lib.hid (show K ≤ 8 ∧ N ≤ 4 ∧ 1 ≤ K ∧ 1 ≤ N from ⟨k8, n4, sK.1, sN.1⟩)
  obtain ⟨v, hv⟩ : ∃ v, w2.alloc (.cells #[.int .i64 p, .int .i64 K, .int .i64 N] TPa) = v := ⟨_, rfl⟩
  obtain ⟨s2, e2, hbv⟩ := one_box hv
  have H2 := Lib.hid (below_tr H1.out (below_tr hb2 hbv))
  have HT2 := Lib.hid (HT1.out.below (below_tr hb2 hbv))
  have E1 := Lib.hid (kept_box E1.out (below_tr hb2 hbv))
  have E2 := Lib.hid e2
  obtain ⟨c0, c1, c2⟩ := box_three e2
  clear s2 e2 hbv hb2 hX sK sN hs k8 n4 H1 HT1 y1 HA
  go_wp2_with fail
  refine (field_yes p HX.out.1 _ HT2.out).mono ?_
  rintro e w3 ⟨b, rfl, hf3, hn3, hb3⟩
  have HL3 := Lib.hid (Live.start (Below.refl v.heap.size v) hf3 hn3 hb3)
  obtain ⟨c0, c1, c2⟩ := box_three (kept_box E2.out hb3)
  clear hf3 hn3 hb3
  go_wp2_with fail
  refine (par12 p K N _ (HT2.out.below HL3.out.2.1)).mono ?_
  rintro e w4 ⟨t, A4, c4, g4, rfl, ht, _, hx4, hg4, hb4⟩
  obtain rfl : t = true := ht.2 HX.out
  simp only [cond, errOf, if_true, Int.toNat_natCast] at hx4 ⊢
  have X4 := Lib.hid hx4
  have HG4 := Lib.hid hg4
  have HL4 := Lib.hid (HL3.out.below hb4)
  obtain ⟨d0, d1, d2⟩ := box_three (kept_box E2.out HL4.out.2.1)
  clear ht hx4 hg4 hb4 HL3 c0 c1 c2 hv
  go_wp2_with fail
  refine (ridentity26 g4 K (by have := KN.out; omega) _ HG4.out).mono ?_
  rintro e w5 ⟨v5, rfl, A5, c5, rfl, _, hx5, hb5⟩
  have HL5 := Lib.hid (HL4.out.below hb5)
  have X5 := Lib.hid (X4.out.below hb5)
  have I5 := Lib.hid hx5
  have HG5 := Lib.hid (Nat.lt_of_lt_of_le HG4.out hb5.size)
  clear hx5 hb5 HL4 X4 HG4 d0 d1 d2
  go_wp2_with fail
  refine (join_apart b g4 (wdP p) _ (goodP p).kind idF (ivs (rowsE p K N)) (fun _ => K) (fun _ => K) A5 A4 K N c5 c4 _ HL5.out.1.c0 HG5.out I5.out X5.out).mono ?_
  rintro e w6 ⟨t, v6, rfl, ht, hv6⟩
  obtain rfl : t = true := ht.2 ⟨idF_may (goodP p) SK.out, ivs_may _ SN.out SK.out, rfl, by have := KN.out; omega⟩
  rw [show errOf true = 0 from rfl]
  simp only [cond] at hv6 ⊢
  rw [join_rows] at hv6
  obtain ⟨A6, c6, rfl, _, hx6, hb6⟩ := hv6
  have HL6 := Lib.hid (HL5.out.below hb6)
  have S6 := Lib.hid ((hx6 b HL5.out.1.lt).congr (Ls' := fun _ => K) (fun r hr => by unfold joinL; split <;> rfl) (fun _ _ _ _ => rfl))
  obtain ⟨d0, d1, d2⟩ := box_three (kept_box E2.out HL6.out.2.1)
  have l2 := box_at (i := 0) (x := .int .u8 f) (kept_box E1.out HL6.out.2.1) rfl
  have l3 := box_at (i := 1) (x := .int .u8 s) (kept_box E1.out HL6.out.2.1) rfl
  obtain ⟨T, hM, hMe⟩ : ∃ T : Nat, (K : Int) + (N : Int) = (T : Int) ∧ T = K + N := ⟨K + N, by omega, rfl⟩
  have hMb : T ≤ 12 := by have := KN.out; omega
  have HM := Lib.hid hMe
  clear hx6 hb6 ht HL5 X5 I5 HG5 hMe
  obtain ⟨kb8, nb4, kb1, nb1⟩ := KN.out
  go_wp2_with fail
  refine (chosen11 T K f s (by have := HM.out; omega) (by omega) (by have := HM.out; omega) (by omega) (by omega) _).mono ?_
  rintro e w7 ⟨A7, c7, rfl, hr7, hb7⟩
  have HL7 := Lib.hid (HL6.out.below hb7)
  have S7 := Lib.hid (S6.out.below hb7)
  have R7 := Lib.hid (hr7 b HL6.out.1.lt)
  clear hr7 hb7 HL6 S6 d0 d1 d2 l2 l3 kb8 nb4 kb1 nb1
  have HSM := Lib.hid (show side (K + N) from ⟨by have := KN.out; omega, by have := KN.out; omega⟩)
  have HP := Lib.hid (show pickP (M.ord (qP p).p) (K + N) (fun _ => K) (ivs (joinE K dl (rowsE p K N))) K (fun j => (chAt T s f j : Int)) from ⟨ivs_may _ HSM.out SK.out, SK.out, fun r _ => by have := chAt_lt (n := T) (by have := HM.out; have := KN.out; omega) s f r; have := HM.out; dsimp only; omega⟩)
  go_wp2_with fail
  refine (pick12 b (wdP p) _ (goodP p).kind (ivs (joinE K dl (rowsE p K N))) (fun _ => K) A6 A7 (K + N) K c6 c7 (fun j => (chAt T s f j : Int)) _ HL7.out.1.c0 S7.out R7.out).mono ?_
  rintro e w8 ⟨t, v8, rfl, ht, hv8⟩
  obtain rfl : t = true := ht.2 HP.out
  rw [show errOf true = 0 from rfl]
  simp only [cond] at hv8 ⊢
  obtain ⟨A8, c8, rfl, _, hx8, hb8⟩ := hv8
  have HL8 := Lib.hid (HL7.out.below hb8)
  have P8 := Lib.hid (show Mx b w8 (ivs (fun i j => joinE K dl (rowsE p K N) (chAt T s f i) j)) (fun _ => K) A8 K from hx8 b HL7.out.1.lt)
  clear hx8 hb8 ht HL7 S7 R7 HP HSM
  have HR := Lib.hid (rows_any HX.out (chAt T s f) (fun i _ => by have := chAt_lt (n := T) (by have := HM.out; have := KN.out; omega) s f i; have := HM.out; omega) (fun i j hi hj h => chAt_inj (n := T) (by have := HM.out; have := KN.out; omega) (by omega) s f i j (by have := HM.out; omega) (by have := HM.out; omega) h))
  go_wp2_with fail
  refine (inverse12 (qP p) b (wdP p) K (fun _ => K) _ A8 c8 _ HL8.out.1 P8.out).mono ?_
  rintro e w9 ⟨s9, t9, A9, c9, rfl, hs, ht, _, _, hf9, ht9⟩
  obtain rfl : s9 = true := hs.2 ⟨ivs_may _ SK.out SK.out, rfl⟩
  rw [elM_ivs] at ht
  obtain rfl : t9 = true := (ht rfl).2 HR.out
  rw [show err2 true true = 0 from rfl]
  have HE := Lib.hid (below_tr H2.out (HL8.out.next hf9 ht9).2.1)
  clear hs ht hf9 ht9 HL8 P8 HR
  go_wp2_with fail
  go_ret
  exact ⟨rfl, HE.out⟩

set_option maxRecDepth 100000 in
theorem lifted (os : Os) (started : os.Started) (H : Type) (enc : TypeId × Value → H) :
    ReturnsInHanded {} Tryz.checked os 6 .any (fun w args => (Rows.profileAnySpec.pre enc Tryz.prog Tryz.f6 Rows.profileAnyRow.domain false w args ∧ laidMetH Tryz.prog laidT w) ∧ sizedMet enc Tryz.prog Tryz.f6 (OpenSpec.ofChange Rows.profileAnySpec) false w args) (Rows.profileAnySpec.post enc Tryz.prog Tryz.f6 false true false false) := by
  refine returnsInHanded_of_change_and (C := Tryz.checked) (X := fun w _ => laidMetH Tryz.prog laidT w) (fun _ _ _ hh h => h.of_heap hh) own started (by kernel_rfl) Tryz.func6
    (ChangeSpec.witness_shaped (enc := enc) (C := Tryz.checked) (os := os) (X := fun w _ => laidMetH Tryz.prog laidT w) false (World.doorLaid Tryz.prog 400 os) #[.agg #[.int .u8 0, .int .u8 0, .int .u8 0], .agg #[.int .u8 0, .int .u8 0]] 8 rfl (World.shaped_of_RefB (by kernel_rfl) (by kernel_rfl)) (by kernel_rfl) (by kernel_rfl) (by kernel_rfl) (door_met os _)) ?_
  intro W base args ds gs before hval0 hW hcnd _ hL _
  have hval : ∀ (j : Nat) t v, Tryz.f6.params[j]? = some t → args[j]? = some v → Value.okWide Tryz.prog W .any base t v := hval0
  have hW' := hW
  obtain ⟨p, q, hA0, hV, rfl, hfz, hnd⟩ := hW
  have hA : DataW.TrodAll enc Tryz.prog W 0 (fun _ => true) true Tryz.f6.params.toList args.toList ds p := hA0
  rw [Tryz.params6] at hA hval
  obtain ⟨v0, vs0, d0, ds0, p0, q0, hargs, rfl, rfl, h0, r0⟩ := trodAll_cons hA
  obtain ⟨v1, vs1, d1, ds1, p1, q1, rfl, rfl, rfl, h1, r1⟩ := trodAll_cons r0
  obtain ⟨rfl, rfl, rfl⟩ := trodAll_nil r1
  obtain rfl : args = #[v0, v1] := by cases args; simp_all
  obtain ⟨rfl, rfl⟩ := trodVars_none hV
  obtain ⟨cs0, rfl, hsz0, _⟩ : ∃ cs, v0 = .agg cs ∧ cs.size = Tryz.prog.cellsOf 51 ∧ Row.okWide Tryz.prog W .any base 51 cs := by
    have := hval 0 51 v0 rfl rfl
    simpa [Value.okWide, Tryz.underlying51] using this
  rw [show Tryz.prog.cellsOf 51 = 3 by kernel_rfl] at hsz0
  obtain ⟨l0⟩ := cs0
  obtain ⟨e0, f0, g0, rfl⟩ := list3 l0 hsz0
  have k0 := h0
  have lt0 : ∀ x ∈ p0, x.block < W.heap.size := by obtain ⟨m, hm⟩ := k0; exact DataW.trod_lt m _ _ _ hm
  obtain ⟨fuel0, hf0⟩ := h0
  obtain ⟨a0, b0, c0, rfl, rfl, rfl, w0⟩ := three_in hf0
  obtain ⟨cs1, rfl, hsz1, _⟩ : ∃ cs, v1 = .agg cs ∧ cs.size = Tryz.prog.cellsOf 56 ∧ Row.okWide Tryz.prog W .any base 56 cs := by
    have := hval 1 56 v1 rfl rfl
    simpa [Value.okWide, Tryz.underlying56] using this
  rw [show Tryz.prog.cellsOf 56 = 2 by kernel_rfl] at hsz1
  obtain ⟨l1⟩ := cs1
  obtain ⟨e1, f1, rfl⟩ := list2 l1 hsz1
  have k1 := h1
  have lt1 : ∀ x ∈ p1, x.block < W.heap.size := by obtain ⟨m, hm⟩ := k1; exact DataW.trod_lt m _ _ _ hm
  obtain ⟨fuel1, hf1⟩ := h1
  obtain ⟨m1, y1, z1, hy1, hz1⟩ := two_cells Tryz.underlying56 (by kernel_rfl) hf1
  obtain ⟨a1, g1, rfl, wa1⟩ := DataW.trod_int Tryz.underlying5 hy1
  obtain ⟨c1, j1, rfl, wc1⟩ := DataW.trod_int Tryz.underlying5 hz1
  simp at g1 j1
  subst g1 j1
  clear hA0 hval0
  refine (walk a0 b0 c0 a1 c1 W w0 ⟨bounds_u8 wa1, bounds_u8 wc1⟩ (tab_of_laid hL)).mono fun e W' ⟨he, bel⟩ => ?_
  subst he
  exact ⟨_, rfl, _, _, _, [], _, [], hW', trodAll_mk1 (shut_bool Tryz.underlying4 _), (trodAll_cons_mk (Below.trod laidOut (by kernel_rfl) (of_decide_eq_true (by kernel_rfl)) k0 bel lt0) (trodAll_cons_mk (Below.trod laidOut (by kernel_rfl) (of_decide_eq_true (by kernel_rfl)) k1 bel lt1) trodAll_mk0)), rfl, bel.frame _, fun h => by cases h⟩

theorem over : Rows.profileAnyRow.holds Tryz.pinned (OpenSpec.ofChange Rows.profileAnySpec) :=
  OpenClaim.holds_of_wide 6 Tryz.f6 rfl rfl rfl rfl rfl rfl rfl ⟨rfl, rfl, rfl, rfl, rfl⟩ rfl rfl rfl rfl rfl (by kernel_rfl) Tryz.func6 (by kernel_rfl)
    (of_decide_eq_true (by kernel_rfl)) (by unfold Func.isWrapper; first | (rw [if_pos (by decide +kernel)]; kernel_rfl) | (rw [if_neg (by decide +kernel)]; exact ⟨rfl, rfl⟩))
    (fun os started H enc _ => lifted os started H enc)

theorem proved : Rows.ProfileAnyCardSaid :=
  Claim7.holds_tied_plain_at .later [] [.data] true Rows.profileAnyCard.stood.harness false
    over (fun _ h => by cases h) (by kernel_rfl) (fun _ h => by cases h) profileAny_row_tie rfl ⟨rfl, rfl⟩ (by kernel_rfl) rfl
    (fun f fn hf hfn => by
      obtain rfl : f = 6 := Option.some.inj ((show Tryz.prog.funcNamed "gambrel/gambrellaw09.ProfileAny" = some 6 by kernel_rfl).symm.trans hf) |>.symm
      obtain rfl : fn = Tryz.f6 := (Option.some.inj (Tryz.func6.symm.trans hfn)).symm
      exact ⟨by kernel_rfl, fun j t ht => by
        rw [Tryz.params6] at ht
        have hm : t ∈ [51, 56] := by simpa using Array.mem_of_getElem? ht
        have hall : ([51, 56].all fun u => !Tryz.prog.wantsStandIn u) = true := by kernel_rfl
        exact (show Tryz.prog.wantsStandIn t = false by simpa using List.all_eq_true.1 hall t hm)⟩)
    (by kernel_rfl)
end Go.Proofs.YtdidlfeolbcblaaGreatDoor.profileAny
