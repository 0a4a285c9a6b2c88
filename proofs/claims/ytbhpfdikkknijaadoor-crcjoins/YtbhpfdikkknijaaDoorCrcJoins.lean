/- Bytes one behind the other have the sum of the first ones and the others. Condition: the package-level variables of the library which the row lists (strconv.ErrSyntax, strconv.ErrRange, internal/strconv.uint64pow10, math/bits.deBruijn32tab, math/bits.deBruijn64tab) hold, when the call begins, what the text of the library lays there; the card ties that to the text, over the pruned copy of the project that the seat holds. -/
import Derived.Test.YtbhpfdikkknijaaDoorRows
import Derived.Test.YtbhpfdikkknijaaDoorCrk
import Derived.Test.YtbhpfdikkknijaaDoorGxx
import Derived.Test.YtbhpfdikkknijaaDoorCro
import Derived.Test.YtbhpfdikkknijaaDoorCards
import Derived.Test.YtbhpfdikkknijaaDoorTie
import Derived.SevenTiedAt
import Derived.ChangeMaps5
import Derived.Deep.RegionHeld3
import Derived.WalkKit
import Derived.ProofKit
import Derived.OpenShut
import Derived.ShutString
import Derived.ChangeOld
import Derived.Below
namespace Go.Proofs.YtbhpfdikkknijaaDoor.crcJoins
open Go.ChangeShapes Go.WideShapes Go.ChangeAt Go.RowKit
set_option linter.unusedVariables false

theorem own : ownKnob Tryd.prog.godebug = none := by kernel_rfl
theorem laidOut : laidOutB Tryd.prog = true := by kernel_rfl

set_option maxRecDepth 100000 in
set_option maxHeartbeats 8000000 in
theorem walk (a0 : Option Addr) (len0 cap0 : Nat) (a1 : Option Addr) (len1 cap1 : Nat) (a2 : Int) (w : World) (w0 : IsBytesN w a0 len0 cap0) (z0 : cap0 ≤ 140737488351232) (w1 : IsBytesN w a1 len1 cap1) (z1 : cap1 ≤ 140737488351232) (w2 : 0 ≤ a2 ∧ a2 ≤ 4294967295) (hE : Env w) :
    Calls Tryd.prog 5 #[.slice a0 len0 cap0, .slice a1 len1 cap1, .int .u32 a2] w fun e w' => e = .returned (.bool true) ∧ Below w.heap.size w w' := by
  obtain ⟨i1, hi', hz0', hz1', hz2'⟩ := info_parts infoB
  obtain ⟨s, rfl⟩ : ∃ s : Nat, a2 = (s : Int) := ⟨a2.toNat, by omega⟩
  have hs : s < 4294967296 := by omega
  obtain ⟨f, hf, hc0, hn0, hr0⟩ := w0
  obtain ⟨g, hg, hc1, hn1, hr1⟩ := w1
  have R0 := Lib.hid (hr0 w.heap.size (Nat.le_refl _))
  have R1 := Lib.hid (hr1 w.heap.size (Nat.le_refl _))
  have HF := Lib.hid hf
  have HG := Lib.hid hg
  have HS := Lib.hid hs
  have N0 := Lib.hid hn0
  have N1 := Lib.hid hn1
  have l0 : len0 ≤ 140737488351232 := by omega
  have l1 : len1 ≤ 140737488351232 := by omega
  clear w2 hr0 hr1 hf hg hs hn0 hn1 hc0 hc1 z0 z1
  go_enter Tryd.func5, Tryd.ntmps5
  go_wp2_with fail
  refine (awakeX w hE).mono ?_
  rintro e v1 ⟨rfl, hb1⟩
  have HB := Lib.hid hb1
  have R0 := Lib.hid (R0.out.below hb1)
  have R1 := Lib.hid (R1.out.below hb1)
  clear hb1
  by_cases hl : len0 + len1 ≤ 500
  case neg =>
    have hlI : decide ((len0 : Int) + (len1 : Int) > 500) = true := by simp; omega
    go_wp2_with fail
    go_ret
    exact ⟨rfl, HB.out⟩
  have hlI : decide ((len0 : Int) + (len1 : Int) > 500) = false := by simp; omega
  clear l0 l1
  go_wp2_with (at_builtin; refine append_rd _ rfl (.tmp 17) (.tmp 18) TBs rfl v1.heap.size TB i1 (.int .u8 0) 1 Tryd.underlying23 hi' hz0' hz1' hz2' rfl _ 0 [] rfl (World.ownsRow_lit v1 #[] 0 (Nat.le_refl _) (Nat.zero_le _) rfl) w.heap.size _ _ _ _ rfl N0.out (R0.out.below (below_alloc _ _)) (fun _ => rfl) (by unfold maxLen; omega) (by omega) (by simp) ?_)
  intro v2 u2 hown2 hgr2
  have hB2 : Below v1.heap.size v1 u2 := (below_alloc v1 (.cells #[] TB)).grown hgr2 (by simp) (fun q hq => by simp [Value.ownBlock] at hq; omega)
  have HB2 := Lib.hid hB2
  have HO2 := Lib.hid hown2
  have hz2 := hB2.size
  clear hown2 hgr2 hB2
  go_wp2_with (at_builtin; refine append_rd _ rfl (.tmp 20) (.tmp 21) TBs rfl v1.heap.size TB i1 (.int .u8 0) 1 Tryd.underlying23 hi' hz0' hz1' hz2' rfl _ len0 _ rfl HO2.out w.heap.size _ _ _ _ rfl N1.out (R1.out.below HB2.out) (fun _ => rfl) (by unfold maxLen; omega) (by omega) hz2 ?_)
  intro v3 u3 hown3 hgr3
  rw [← range_catB] at hown3
  have hB3 : Below v1.heap.size v1 u3 := HB2.out.grown hgr3 hz2 (fun q hq => (HO2.out.lt q hq).1)
  obtain ⟨A3, c3, rfl, hc3, _, hr3⟩ := own_rdX hown3
  have H3 := Lib.hid (below_tr HB.out hB3)
  have R0 := Lib.hid (R0.out.below hB3)
  have R1 := Lib.hid (R1.out.below hB3)
  have R3 := Lib.hid hr3
  have hcl := Lib.hid (catB_lt HF.out HG.out len0)
  have l0 : len0 ≤ 500 := by omega
  have l1 : len1 ≤ 500 := by omega
  obtain ⟨x, hx⟩ : ∃ x, u3.heap.size = x := ⟨_, rfl⟩
  rw [hx] at R3
  clear hown3 hgr3 hB3 hr3 HO2 HB2 hz2 hx HB
  go_wp2_with fail
  refine (csum10 x _ hcl.out A3 (len0 + len1) c3 (by omega) u3 R3.out).mono ?_
  rintro e u4 ⟨rfl, hb4⟩
  rw [moreF_cat HF.out]
  have H4 := Lib.hid (below_tr H3.out hb4)
  have R0 := Lib.hid (R0.out.below hb4)
  have R1 := Lib.hid (R1.out.below hb4)
  have R4 := Lib.hid (R3.out.below hb4)
  have hy := moreF_lt f len0 0
  have HQ := Lib.hid (csum10 w.heap.size f HF.out a0 len0 cap0 (by omega) u4 R0.out)
  obtain ⟨y, hyy⟩ : ∃ y, moreF f len0 0 = y := ⟨_, rfl⟩
  rw [hyy] at HQ hy ⊢
  have HYL := Lib.hid hy
  obtain ⟨y2, hy2⟩ : ∃ y2, moreF g len1 y = y2 := ⟨_, rfl⟩
  have HY2 := Lib.hid hy2
  rw [hy2]
  clear hb4 hyy hy hy2 H3 R3
  go_wp2_with fail
  refine HQ.out.mono ?_
  rintro e u5 ⟨rfl, hb5⟩
  have H5 := Lib.hid (below_tr H4.out hb5)
  have R0 := Lib.hid (R0.out.below hb5)
  have R1 := Lib.hid (R1.out.below hb5)
  have R5 := Lib.hid (R4.out.below hb5)
  clear hb5 H4 R4 HQ
  go_wp2_with fail
  refine (more12 w.heap.size y HYL.out g HG.out a1 len1 cap1 (by omega) u5 R1.out).mono ?_
  rintro e u6 ⟨rfl, hb6⟩
  rw [HY2.out]
  have H6 := Lib.hid (below_tr H5.out hb6)
  have R0 := Lib.hid (R0.out.below hb6)
  have R1 := Lib.hid (R1.out.below hb6)
  have R6 := Lib.hid (R5.out.below hb6)
  clear hb6 H5 R5
  go_wp2_with fail
  refine (more12 x s HS.out _ hcl.out A3 (len0 + len1) c3 (by omega) u6 R6.out).mono ?_
  rintro e u7 ⟨rfl, hb7⟩
  rw [moreF_cat HF.out]
  have H7 := Lib.hid (below_tr H6.out hb7)
  have R0 := Lib.hid (R0.out.below hb7)
  have R1 := Lib.hid (R1.out.below hb7)
  have HQ := Lib.hid (more12 w.heap.size s HS.out f HF.out a0 len0 cap0 (by omega) u7 R0.out)
  have hq := moreF_lt f len0 s
  obtain ⟨q, hqq⟩ : ∃ q, moreF f len0 s = q := ⟨_, rfl⟩
  rw [hqq] at HQ hq ⊢
  have HQL := Lib.hid hq
  obtain ⟨q2, hq2⟩ : ∃ q2, moreF g len1 q = q2 := ⟨_, rfl⟩
  have HQ2 := Lib.hid hq2
  rw [hq2]
  clear hb7 hqq hq hq2 H6 R6
  go_wp2_with fail
  refine HQ.out.mono ?_
  rintro e u8 ⟨rfl, hb8⟩
  have H8 := Lib.hid (below_tr H7.out hb8)
  have R1 := Lib.hid (R1.out.below hb8)
  clear hb8 H7 HQ
  go_wp2_with fail
  refine (more12 w.heap.size q HQL.out g HG.out a1 len1 cap1 (by omega) u8 R1.out).mono ?_
  rintro e u9 ⟨rfl, hb9⟩
  rw [HQ2.out]
  have H9 := Lib.hid (below_tr H8.out hb9)
  have HZ := Lib.hid (more12 w.heap.size s HS.out f HF.out none 0 0 (by omega) u9 Rd.zero)
  rw [moreF_none f HS.out] at HZ
  clear hb9 H8
  go_wp2_with fail
  refine HZ.out.mono ?_
  rintro e u10 ⟨rfl, hb10⟩
  have H10 := Lib.hid (below_tr H9.out hb10)
  clear hb10 H9 HZ
  go_wp2_with fail
  go_ret
  exact ⟨rfl, H10.out⟩

set_option maxRecDepth 100000 in
theorem lifted (os : Os) (started : os.Started) (H : Type) (enc : TypeId × Value → H) :
    ReturnsInHanded {} Tryd.checked os 5 .any (fun w args => (Rows.crcJoinsSpec.pre enc Tryd.prog Tryd.f5 Rows.crcJoinsRow.domain false w args ∧ laidMetH Tryd.prog laidT w) ∧ sizedMet enc Tryd.prog Tryd.f5 (OpenSpec.ofChange Rows.crcJoinsSpec) false w args) (Rows.crcJoinsSpec.post enc Tryd.prog Tryd.f5 false true false false) := by
  refine returnsInHanded_of_change_and (C := Tryd.checked) (X := fun w _ => laidMetH Tryd.prog laidT w) (fun _ _ _ hh h => h.of_heap hh) own started (by kernel_rfl) Tryd.func5
    (ChangeSpec.witness_shaped (enc := enc) (C := Tryd.checked) (os := os) (X := fun w _ => laidMetH Tryd.prog laidT w) false (World.doorLaid Tryd.prog 400 os) #[.slice none 0 0, .slice none 0 0, .int .u32 0] 8 rfl (World.shaped_of_RefB (by kernel_rfl) (by kernel_rfl)) (by kernel_rfl) (by kernel_rfl) (by kernel_rfl) (door_met os _)) ?_
  intro W base args ds gs before hval0 hW hcnd hsz0 hL _
  have hval : ∀ (j : Nat) t v, Tryd.f5.params[j]? = some t → args[j]? = some v → Value.okWide Tryd.prog W .any base t v := hval0
  have hW' := hW
  obtain ⟨p, q, hA0, hV, rfl, hfz, hnd⟩ := hW
  have hA : DataW.TrodAll enc Tryd.prog W 0 (fun _ => true) true Tryd.f5.params.toList args.toList ds p := hA0
  have hsz : (DataW.weightsEach Tryd.prog (Tryd.f5.params.toList ++ Rows.crcJoinsSpec.plain.varTypes Tryd.prog) (ds ++ gs)).all (· ≤ reachBytes) = true := hsz0
  rw [Tryd.params5] at hA hval hsz
  obtain ⟨v0, vs0, d0, ds0, p0, q0, hargs, rfl, rfl, h0, r0⟩ := trodAll_cons hA
  obtain ⟨v1, vs1, d1, ds1, p1, q1, rfl, rfl, rfl, h1, r1⟩ := trodAll_cons r0
  obtain ⟨v2, vs2, d2, ds2, p2, q2, rfl, rfl, rfl, h2, r2⟩ := trodAll_cons r1
  obtain ⟨rfl, rfl, rfl⟩ := trodAll_nil r2
  obtain rfl : args = #[v0, v1, v2] := by cases args; simp_all
  obtain ⟨rfl, rfl⟩ := trodVars_none hV
  obtain ⟨a0, len0, cap0, rfl⟩ := okWide_slice Tryd.underlying23 (hval 0 23 v0 rfl rfl)
  have k0 := h0
  have lt0 : ∀ x ∈ p0, x.block < W.heap.size := by obtain ⟨m, hm⟩ := k0; exact DataW.trod_lt m _ _ _ hm
  have w0 : IsBytesN W a0 len0 cap0 := by
    obtain ⟨fuel, hf⟩ := h0
    exact bytesn_in hf
  have z0 : cap0 ≤ 140737488351232 := by
    obtain ⟨fuel, hf⟩ := h0
    rcases bytes_cap hf with hz | ⟨es, sp, hd, hl⟩
    · omega
    · have hz := sized_slice hsz (j := 0) (t := TBs) (e := TB) rfl (by rw [hd]; rfl) Tryd.underlying23
      rw [show Tryd.prog.bytesOf TB = 1 by kernel_rfl, hl, show reachBytes = 140737488351232 from rfl] at hz
      omega
  obtain ⟨a1, len1, cap1, rfl⟩ := okWide_slice Tryd.underlying23 (hval 1 23 v1 rfl rfl)
  have k1 := h1
  have lt1 : ∀ x ∈ p1, x.block < W.heap.size := by obtain ⟨m, hm⟩ := k1; exact DataW.trod_lt m _ _ _ hm
  have w1 : IsBytesN W a1 len1 cap1 := by
    obtain ⟨fuel, hf⟩ := h1
    exact bytesn_in hf
  have z1 : cap1 ≤ 140737488351232 := by
    obtain ⟨fuel, hf⟩ := h1
    rcases bytes_cap hf with hz | ⟨es, sp, hd, hl⟩
    · omega
    · have hz := sized_slice hsz (j := 1) (t := TBs) (e := TB) rfl (by rw [hd]; rfl) Tryd.underlying23
      rw [show Tryd.prog.bytesOf TB = 1 by kernel_rfl, hl, show reachBytes = 140737488351232 from rfl] at hz
      omega
  obtain ⟨a2, rfl, rfl, rfl, w2⟩ := open_int Tryd.underlying22 (hval 2 22 v2 rfl rfl) h2
  clear hA0 hval0
  refine (walk a0 len0 cap0 a1 len1 cap1 a2 W w0 z0 w1 z1 (bounds_u32 w2) (env_of_laid hL)).mono fun e W' ⟨he, bel⟩ => ?_
  subst he
  exact ⟨_, rfl, _, _, _, [], _, [], hW', trodAll_mk1 (shut_bool Tryd.underlying4 _), (trodAll_cons_mk (Below.trod laidOut (by kernel_rfl) (of_decide_eq_true (by kernel_rfl)) k0 bel lt0) (trodAll_cons_mk (Below.trod laidOut (by kernel_rfl) (of_decide_eq_true (by kernel_rfl)) k1 bel lt1) (trodAll_cons_mk (shut_int Tryd.underlying22 w2) trodAll_mk0))), rfl, bel.frame _, fun h => by cases h⟩

theorem over : Rows.crcJoinsRow.holds Tryd.pinned (OpenSpec.ofChange Rows.crcJoinsSpec) :=
  OpenClaim.holds_of_wide 5 Tryd.f5 rfl rfl rfl rfl rfl rfl rfl ⟨rfl, rfl, rfl, rfl, rfl⟩ rfl rfl rfl rfl rfl (by kernel_rfl) Tryd.func5 (by kernel_rfl)
    (of_decide_eq_true (by kernel_rfl)) (by unfold Func.isWrapper; first | (rw [if_pos (by decide +kernel)]; kernel_rfl) | (rw [if_neg (by decide +kernel)]; exact ⟨rfl, rfl⟩))
    (fun os started H enc _ => lifted os started H enc)

theorem proved : Rows.CrcJoinsCardSaid :=
  Claim7.holds_tied_plain_at .later [] [.data, .data, .data, .sentinel, .sentinel] true Rows.crcJoinsCard.stood.harness true
    over (fun _ h => by cases h) (by kernel_rfl) (fun _ h => by cases h) crcJoins_row_tie rfl ⟨rfl, rfl⟩ (by kernel_rfl) rfl
    (fun f fn hf hfn => by
      obtain rfl : f = 5 := Option.some.inj ((show Tryd.prog.funcNamed "gambrel/gambrellaw13.CrcJoins" = some 5 by kernel_rfl).symm.trans hf) |>.symm
      obtain rfl : fn = Tryd.f5 := (Option.some.inj (Tryd.func5.symm.trans hfn)).symm
      exact ⟨by kernel_rfl, fun j t ht => by
        rw [Tryd.params5] at ht
        have hm : t ∈ [23, 23, 22] := by simpa using Array.mem_of_getElem? ht
        have hall : ([23, 23, 22].all fun u => !Tryd.prog.wantsStandIn u) = true := by kernel_rfl
        exact (show Tryd.prog.wantsStandIn t = false by simpa using List.all_eq_true.1 hall t hm)⟩)
    (by kernel_rfl)
end Go.Proofs.YtbhpfdikkknijaaDoor.crcJoins
