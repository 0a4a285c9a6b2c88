/- With one byte otherwise, or two beside each other, a sum is another one. Condition: the package-level variables of the library which the row lists (strconv.ErrSyntax, strconv.ErrRange, internal/strconv.uint64pow10, math/bits.deBruijn32tab, math/bits.deBruijn64tab) hold, when the call begins, what the text of the library lays there; the card ties that to the text, over the pruned copy of the project that the seat holds. -/
import Derived.Test.YtbhpfdikkknijaaDoorRows
import Derived.Test.YtbhpfdikkknijaaDoorCrk
import Derived.Test.YtbhpfdikkknijaaDoorGxx
import Derived.Test.YtbhpfdikkknijaaDoorArr
import Derived.Test.YtbhpfdikkknijaaDoorCro
import Derived.Test.YtbhpfdikkknijaaDoorCards
import Derived.Test.YtbhpfdikkknijaaDoorTie
import Derived.SevenTiedAt
import Derived.ChangeMaps5
import Derived.Deep.RegionHeld3
import Derived.WalkKit
import Derived.ProofKit
import Derived.OpenShut
import Derived.ShutString
import Derived.ChangeOld
import Derived.Below
namespace Go.Proofs.YtbhpfdikkknijaaDoor.crcOther
open Go.ChangeShapes Go.WideShapes Go.ChangeAt Go.RowKit
set_option linter.unusedVariables false

theorem own : ownKnob Tryd.prog.godebug = none := by kernel_rfl
theorem laidOut : laidOutB Tryd.prog = true := by kernel_rfl

set_option maxRecDepth 100000 in
set_option maxHeartbeats 8000000 in
theorem walk (a0 : Option Addr) (len0 cap0 : Nat) (a1 : Int) (a2 c2 : Int) (w : World) (w0 : IsBytesN w a0 len0 cap0) (w1 : 0 ≤ a1 ∧ a1 ≤ 65535) (w2 : (0 ≤ a2 ∧ a2 ≤ 255) ∧ 0 ≤ c2 ∧ c2 ≤ 255) (hE : Env w) :
    Calls Tryd.prog 6 #[.slice a0 len0 cap0, .int .u16 a1, .agg #[.int .u8 a2, .int .u8 c2]] w fun e w' => e = .returned (.bool true) ∧ Below w.heap.size w w' := by
  obtain ⟨i1, hi', hz0', hz1', hz2'⟩ := info_parts infoB
  obtain ⟨at_, rfl⟩ : ∃ n : Nat, a1 = (n : Int) := ⟨a1.toNat, by omega⟩
  obtain ⟨p, rfl⟩ : ∃ n : Nat, a2 = (n : Int) := ⟨a2.toNat, by omega⟩
  obtain ⟨q, rfl⟩ : ∃ n : Nat, c2 = (n : Int) := ⟨c2.toNat, by omega⟩
  have hp : p < 256 := by omega
  have hq : q < 256 := by omega
  obtain ⟨f, hf, hc0, hn0, hr0⟩ := w0
  obtain ⟨u, hu⟩ : ∃ u, w.alloc (.cells #[.int .u8 (p : Int), .int .u8 (q : Int)] T2b) = u := ⟨_, rfl⟩
  obtain ⟨s0, e0, hbu⟩ := one_box hu
  have R0 := Lib.hid ((hr0 w.heap.size (Nat.le_refl _)).below hbu)
  have HU := Lib.hid hbu
  have hEu := hE.below hbu
  have E0 := Lib.hid e0
  have HF := Lib.hid hf
  have N0 := Lib.hid hn0
  have HPQ := Lib.hid (And.intro hp hq)
  have hat : (at_ : Int) ≤ 65535 := w1.2
  clear hr0 hf hn0 s0 e0 hbu w1 w2 hp hq
  go_enter Tryd.func6, Tryd.ntmps6
  go_wp2_with fail
  refine (awakeX u hEu).mono ?_
  rintro e v1 ⟨rfl, hb1⟩
  have HB := Lib.hid (below_tr HU.out hb1)
  have R0 := Lib.hid (R0.out.below hb1)
  have E1 := Lib.hid (kept_box E0.out hb1)
  have y0 := box_at (i := 0) (x := .int .u8 (p : Int)) E1.out rfl
  have hz := HB.out.size
  have hzl := lt_of_cell y0
  clear hb1 hu HU E0
  by_cases h0 : len0 = 0
  · subst h0
    go_wp2_with fail
    go_ret
    exact ⟨rfl, HB.out⟩
  have h0I : ((len0 : Int) == 0) = false := by simp; omega
  by_cases hl : len0 ≤ 500
  case neg =>
    have hlI : decide ((len0 : Int) > 500) = true := by simp; omega
    go_wp2_with fail
    go_ret
    exact ⟨rfl, HB.out⟩
  have hlI : decide ((len0 : Int) > 500) = false := by simp; omega
  by_cases hp0 : p = 0
  · subst hp0
    go_wp2_with fail
    go_ret
    exact ⟨rfl, HB.out⟩
  have hpI : ((p : Int) == 0) = false := by simp; omega
  have hneI : ¬ (len0 : Int) = 0 := by omega
  obtain ⟨i, hi⟩ : ∃ i : Nat, (at_ : Int) % (len0 : Int) = (i : Int) := ⟨at_ % len0, by simp⟩
  have hin : i < len0 := by have := Int.emod_lt_of_pos (at_ : Int) (show 0 < (len0 : Int) by omega); omega
  go_wp2_with (at_builtin; refine append_rd _ rfl (.tmp 30) (.tmp 31) TBs rfl v1.heap.size TB i1 (.int .u8 0) 1 Tryd.underlying23 hi' hz0' hz1' hz2' rfl _ 0 [] rfl (World.ownsRow_lit v1 #[] 0 (Nat.le_refl _) (Nat.zero_le _) rfl) w.heap.size _ _ _ _ rfl N0.out (R0.out.below (below_alloc _ _)) (fun _ => rfl) (by unfold maxLen; omega) (by omega) (by simp) ?_)
  intro v2 u2 hown2 hgr2
  have hB2 : Below v1.heap.size v1 u2 := (below_alloc v1 (.cells #[] TB)).grown hgr2 (by simp) (fun q hq => by simp [Value.ownBlock] at hq; omega)
  obtain ⟨g, c, K, rfl, hg, hc, hrow, hK⟩ := own_rowX hown2 (by omega)
  have HB2 := Lib.hid (below_tr HB.out hB2)
  have RV := R0
  have EV := E1
  have E2 := Lib.hid (kept_box E1.out hB2)
  have HROW := Lib.hid hrow
  have HK := Lib.hid hK
  have y1 := box_at (i := 0) (x := .int .u8 (p : Int)) E2.out rfl
  have d1 : u2.cell? ⟨g, i, none⟩ = some (.int .u8 (f i : Nat)) := by rw [hrow.cell (show i < c by omega), hK i hin]
  have d2 := hrow.frozen i
  have hfi := HF.out i
  obtain ⟨X, hX⟩ : ∃ X, f i ^^^ p = X := ⟨_, rfl⟩
  have hxor := u8_xor_nat (f i) p hfi HPQ.out.1
  rw [hX] at hxor
  have HX := Lib.hid hX
  obtain ⟨x, hx⟩ : ∃ x, f i = x := ⟨_, rfl⟩
  rw [hx] at d1 hxor
  have hiI : (i : Int) < (len0 : Int) := by omega
  have HP := Lib.hid (show ((u2.setCell ⟨g, i, none⟩ (.int .u8 (X : Int))).drew).rowIs g TB c (fun j => if j = i then .int .u8 (X : Int) else K j) ∧ Below w.heap.size w ((u2.setCell ⟨g, i, none⟩ (.int .u8 (X : Int))).drew) ∧ Below v1.heap.size v1 ((u2.setCell ⟨g, i, none⟩ (.int .u8 (X : Int))).drew) from
    ⟨(hrow.set i _).drew, (HB2.out.setCell (p := ⟨g, i, none⟩) (by simp; omega) _).drew, (hB2.setCell (p := ⟨g, i, none⟩) (by simp; omega) _).drew⟩)
  clear hown2 hgr2 hB2 hrow hK y0 hX hx hfi HB E1 HROW HB2
  go_wp2_with fail
  go_region
  all_goals
    generalize (u2.setCell ⟨g, i, none⟩ (.int .u8 (X : Int))).drew = u3 at *
    clear d1 d2 y1 hxor hi
    obtain ⟨p1, p2, p3⟩ := HP.out
    have R3 := Lib.hid (RV.out.below p3)
    have E3 := Lib.hid (kept_box EV.out p3)
    by_cases hlt : i + 1 < len0
    · have hltI : (i : Int) + 1 < (len0 : Int) := by omega
      have y2 := box_at (i := 1) (x := .int .u8 (q : Int)) E3.out rfl
      have d3 : u3.cell? ⟨g, i + 1, none⟩ = some (.int .u8 (f (i + 1) : Nat)) := by rw [p1.cell (show i + 1 < c by omega), if_neg (by omega), HK.out _ hlt]
      have d4 := p1.frozen (i + 1)
      obtain ⟨Y, hY⟩ : ∃ Y, f (i + 1) ^^^ q = Y := ⟨_, rfl⟩
      have hxor2 := u8_xor_nat (f (i + 1)) q (HF.out _) HPQ.out.2
      rw [hY] at hxor2
      have HY := Lib.hid hY
      obtain ⟨z, hzz⟩ : ∃ z, f (i + 1) = z := ⟨_, rfl⟩
      rw [hzz] at d3 hxor2
      have HP2 := Lib.hid (show ((u3.setCell ⟨g, i + 1, none⟩ (.int .u8 (Y : Int))).drew).rowIs g TB c (fun j => if j = i + 1 then .int .u8 (Y : Int) else if j = i then .int .u8 (X : Int) else K j) ∧ Below w.heap.size w ((u3.setCell ⟨g, i + 1, none⟩ (.int .u8 (Y : Int))).drew) ∧ Below v1.heap.size v1 ((u3.setCell ⟨g, i + 1, none⟩ (.int .u8 (Y : Int))).drew) from
        ⟨(p1.set (i + 1) _).drew, (p2.setCell (p := ⟨g, i + 1, none⟩) (by simp; omega) _).drew, (p3.setCell (p := ⟨g, i + 1, none⟩) (by simp; omega) _).drew⟩)
      clear p1 p2 p3 HP hY hzz R3 E3
      go_wp2_with fail
      go_region
      all_goals
        generalize (u3.setCell ⟨g, i + 1, none⟩ (.int .u8 (Y : Int))).drew = u4 at *
        clear d3 d4 y2 hxor2
        obtain ⟨p1, p2, p3⟩ := HP2.out
        have HB4 := Lib.hid p2
        have R4 := Lib.hid (RV.out.below p3)
        have HO4 := Lib.hid (show Rd w.heap.size u4 (u8s (oddB f i p q)) (some ⟨g, 0, none⟩) len0 from (Rd.of_row p1 (by omega) hc).congr (fun j hj => by
          simp only [u8s, oddB]
          by_cases e1 : j = i + 1
          · rw [if_pos e1, if_neg (by omega), if_pos e1, HY.out]
          · rw [if_neg e1, if_neg e1]
            by_cases e2 : j = i
            · rw [if_pos e2, if_pos e2, HX.out]
            · rw [if_neg e2, if_neg e2, HK.out j hj]))
        have HNE := Lib.hid (oddB_sum HF.out hin HPQ.out.1 HPQ.out.2 hp0)
        have Q := Lib.hid (csum10 w.heap.size (oddB f i p q) (oddB_lt HF.out HPQ.out.1 HPQ.out.2) (some ⟨g, 0, none⟩) len0 c (by omega) u4 HO4.out)
        obtain ⟨s1, hs1⟩ : ∃ s1, moreF (oddB f i p q) len0 0 = s1 := ⟨_, rfl⟩
        obtain ⟨s2, hs2⟩ : ∃ s2, moreF f len0 0 = s2 := ⟨_, rfl⟩
        have HS2 := Lib.hid hs2
        rw [hs1] at Q HNE
        rw [hs2] at HNE
        have hne : ((s1 : Int) != (s2 : Int)) = true := by have := HNE.out; simp; omega
        clear p1 p2 p3 HP2 hs1 hs2
        go_wp2_with fail
        refine Q.out.mono ?_
        rintro e u5 ⟨rfl, hb5⟩
        have H5 := Lib.hid (below_tr HB4.out hb5)
        have R5 := Lib.hid (R4.out.below hb5)
        clear hb5 Q HO4 HB4
        go_wp2_with fail
        refine (csum10 w.heap.size f HF.out a0 len0 cap0 (by omega) u5 R5.out).mono ?_
        rintro e u6 ⟨rfl, hb6⟩
        rw [HS2.out]
        have H6 := Lib.hid (below_tr H5.out hb6)
        clear hb6 H5
        go_wp2_with fail
        go_ret
        exact ⟨rfl, H6.out⟩
    · have hltI : ¬ (i : Int) + 1 < (len0 : Int) := by omega
      have HB4 := Lib.hid p2
      have R4 := R3
      have HO4 := Lib.hid (show Rd w.heap.size u3 (u8s (oddB f i p q)) (some ⟨g, 0, none⟩) len0 from (Rd.of_row p1 (by omega) hc).congr (fun j hj => by
        simp only [u8s, oddB]
        by_cases e2 : j = i
        · rw [if_pos e2, if_pos e2, HX.out]
        · rw [if_neg e2, if_neg e2, if_neg (by omega), HK.out j hj]))
      have HNE := Lib.hid (oddB_sum HF.out hin HPQ.out.1 HPQ.out.2 hp0)
      have Q := Lib.hid (csum10 w.heap.size (oddB f i p q) (oddB_lt HF.out HPQ.out.1 HPQ.out.2) (some ⟨g, 0, none⟩) len0 c (by omega) u3 HO4.out)
      obtain ⟨s1, hs1⟩ : ∃ s1, moreF (oddB f i p q) len0 0 = s1 := ⟨_, rfl⟩
      obtain ⟨s2, hs2⟩ : ∃ s2, moreF f len0 0 = s2 := ⟨_, rfl⟩
      have HS2 := Lib.hid hs2
      rw [hs1] at Q HNE
      rw [hs2] at HNE
      have hne : ((s1 : Int) != (s2 : Int)) = true := by have := HNE.out; simp; omega
      clear p1 p2 p3 HP hs1 hs2
      go_wp2_with fail
      refine Q.out.mono ?_
      rintro e u5 ⟨rfl, hb5⟩
      have H5 := Lib.hid (below_tr HB4.out hb5)
      have R5 := Lib.hid (R4.out.below hb5)
      clear hb5 Q HO4 HB4
      go_wp2_with fail
      refine (csum10 w.heap.size f HF.out a0 len0 cap0 (by omega) u5 R5.out).mono ?_
      rintro e u6 ⟨rfl, hb6⟩
      rw [HS2.out]
      have H6 := Lib.hid (below_tr H5.out hb6)
      clear hb6 H5
      go_wp2_with fail
      go_ret
      exact ⟨rfl, H6.out⟩

set_option maxRecDepth 100000 in
theorem lifted (os : Os) (started : os.Started) (H : Type) (enc : TypeId × Value → H) :
    ReturnsInHanded {} Tryd.checked os 6 .any (fun w args => (Rows.crcOtherSpec.pre enc Tryd.prog Tryd.f6 Rows.crcOtherRow.domain false w args ∧ laidMetH Tryd.prog laidT w) ∧ sizedMet enc Tryd.prog Tryd.f6 (OpenSpec.ofChange Rows.crcOtherSpec) false w args) (Rows.crcOtherSpec.post enc Tryd.prog Tryd.f6 false true false false) := by
  refine returnsInHanded_of_change_and (C := Tryd.checked) (X := fun w _ => laidMetH Tryd.prog laidT w) (fun _ _ _ hh h => h.of_heap hh) own started (by kernel_rfl) Tryd.func6
    (ChangeSpec.witness_shaped (enc := enc) (C := Tryd.checked) (os := os) (X := fun w _ => laidMetH Tryd.prog laidT w) false (World.doorLaid Tryd.prog 400 os) #[.slice none 0 0, .int .u16 0, .agg #[.int .u8 0, .int .u8 0]] 8 rfl (World.shaped_of_RefB (by kernel_rfl) (by kernel_rfl)) (by kernel_rfl) (by kernel_rfl) (by kernel_rfl) (door_met os _)) ?_
  intro W base args ds gs before hval0 hW hcnd _ hL _
  have hval : ∀ (j : Nat) t v, Tryd.f6.params[j]? = some t → args[j]? = some v → Value.okWide Tryd.prog W .any base t v := hval0
  have hW' := hW
  obtain ⟨p, q, hA0, hV, rfl, hfz, hnd⟩ := hW
  have hA : DataW.TrodAll enc Tryd.prog W 0 (fun _ => true) true Tryd.f6.params.toList args.toList ds p := hA0
  rw [Tryd.params6] at hA hval
  obtain ⟨v0, vs0, d0, ds0, p0, q0, hargs, rfl, rfl, h0, r0⟩ := trodAll_cons hA
  obtain ⟨v1, vs1, d1, ds1, p1, q1, rfl, rfl, rfl, h1, r1⟩ := trodAll_cons r0
  obtain ⟨v2, vs2, d2, ds2, p2, q2, rfl, rfl, rfl, h2, r2⟩ := trodAll_cons r1
  obtain ⟨rfl, rfl, rfl⟩ := trodAll_nil r2
  obtain rfl : args = #[v0, v1, v2] := by cases args; simp_all
  obtain ⟨rfl, rfl⟩ := trodVars_none hV
  obtain ⟨a0, len0, cap0, rfl⟩ := okWide_slice Tryd.underlying23 (hval 0 23 v0 rfl rfl)
  have k0 := h0
  have lt0 : ∀ x ∈ p0, x.block < W.heap.size := by obtain ⟨m, hm⟩ := k0; exact DataW.trod_lt m _ _ _ hm
  have w0 : IsBytesN W a0 len0 cap0 := by
    obtain ⟨fuel, hf⟩ := h0
    exact bytesn_in hf
  obtain ⟨a1, rfl, rfl, rfl, w1⟩ := open_int Tryd.underlying33 (hval 1 33 v1 rfl rfl) h1
  obtain ⟨cs2, rfl, hsz2, _⟩ : ∃ cs, v2 = .agg cs ∧ cs.size = Tryd.prog.cellsOf 34 ∧ Row.okWide Tryd.prog W .any base 34 cs := by
    have := hval 2 34 v2 rfl rfl
    simpa [Value.okWide, Tryd.underlying34] using this
  rw [show Tryd.prog.cellsOf 34 = 2 by kernel_rfl] at hsz2
  obtain ⟨l2⟩ := cs2
  obtain ⟨e2, f2, rfl⟩ := list2 l2 hsz2
  have k2 := h2
  have lt2 : ∀ x ∈ p2, x.block < W.heap.size := by obtain ⟨m, hm⟩ := k2; exact DataW.trod_lt m _ _ _ hm
  obtain ⟨fuel2, hf2⟩ := h2
  obtain ⟨m2, y2, z2, hy2, hz2⟩ := two_cells Tryd.underlying34 (by kernel_rfl) hf2
  obtain ⟨a2, g2, rfl, wa2⟩ := DataW.trod_int Tryd.underlying5 hy2
  obtain ⟨c2, j2, rfl, wc2⟩ := DataW.trod_int Tryd.underlying5 hz2
  simp at g2 j2
  subst g2 j2
  clear hA0 hval0
  refine (walk a0 len0 cap0 a1 a2 c2 W w0 (bounds_u16 w1) ⟨bounds_u8 wa2, bounds_u8 wc2⟩ (env_of_laid hL)).mono fun e W' ⟨he, bel⟩ => ?_
  subst he
  exact ⟨_, rfl, _, _, _, [], _, [], hW', trodAll_mk1 (shut_bool Tryd.underlying4 _), (trodAll_cons_mk (Below.trod laidOut (by kernel_rfl) (of_decide_eq_true (by kernel_rfl)) k0 bel lt0) (trodAll_cons_mk (shut_int Tryd.underlying33 w1) (trodAll_cons_mk (Below.trod laidOut (by kernel_rfl) (of_decide_eq_true (by kernel_rfl)) k2 bel lt2) trodAll_mk0))), rfl, bel.frame _, fun h => by cases h⟩

theorem over : Rows.crcOtherRow.holds Tryd.pinned (OpenSpec.ofChange Rows.crcOtherSpec) :=
  OpenClaim.holds_of_wide 6 Tryd.f6 rfl rfl rfl rfl rfl rfl rfl ⟨rfl, rfl, rfl, rfl, rfl⟩ rfl rfl rfl rfl rfl (by kernel_rfl) Tryd.func6 (by kernel_rfl)
    (of_decide_eq_true (by kernel_rfl)) (by unfold Func.isWrapper; first | (rw [if_pos (by decide +kernel)]; kernel_rfl) | (rw [if_neg (by decide +kernel)]; exact ⟨rfl, rfl⟩))
    (fun os started H enc _ => lifted os started H enc)

theorem proved : Rows.CrcOtherCardSaid :=
  Claim7.holds_tied_plain_at .later [] [.data, .data, .data, .sentinel, .sentinel] true Rows.crcOtherCard.stood.harness true
    over (fun _ h => by cases h) (by kernel_rfl) (fun _ h => by cases h) crcOther_row_tie rfl ⟨rfl, rfl⟩ (by kernel_rfl) rfl
    (fun f fn hf hfn => by
      obtain rfl : f = 6 := Option.some.inj ((show Tryd.prog.funcNamed "gambrel/gambrellaw13.CrcOther" = some 6 by kernel_rfl).symm.trans hf) |>.symm
      obtain rfl : fn = Tryd.f6 := (Option.some.inj (Tryd.func6.symm.trans hfn)).symm
      exact ⟨by kernel_rfl, fun j t ht => by
        rw [Tryd.params6] at ht
        have hm : t ∈ [23, 33, 34] := by simpa using Array.mem_of_getElem? ht
        have hall : ([23, 33, 34].all fun u => !Tryd.prog.wantsStandIn u) = true := by kernel_rfl
        exact (show Tryd.prog.wantsStandIn t = false by simpa using List.all_eq_true.1 hall t hm)⟩)
    (by kernel_rfl)
end Go.Proofs.YtbhpfdikkknijaaDoor.crcOther
