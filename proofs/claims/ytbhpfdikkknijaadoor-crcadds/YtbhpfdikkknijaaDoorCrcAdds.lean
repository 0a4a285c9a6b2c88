/- Of bytes, all as long, three added have their three sums, added. Condition: the package-level variables of the library which the row lists (strconv.ErrSyntax, strconv.ErrRange, internal/strconv.uint64pow10, math/bits.deBruijn32tab, math/bits.deBruijn64tab) hold, when the call begins, what the text of the library lays there; the card ties that to the text, over the pruned copy of the project that the seat holds. -/
import Derived.Test.YtbhpfdikkknijaaDoorRows
import Derived.Test.YtbhpfdikkknijaaDoorCrk
import Derived.Test.YtbhpfdikkknijaaDoorGxx
import Derived.Test.YtbhpfdikkknijaaDoorCro
import Derived.Test.YtbhpfdikkknijaaDoorCards
import Derived.Test.YtbhpfdikkknijaaDoorTie
import Derived.SevenTiedAt
import Derived.ChangeMaps5
import Derived.Deep.RegionHeld3
import Derived.WalkKit
import Derived.ProofKit
import Derived.OpenShut
import Derived.ShutString
import Derived.ChangeOld
import Derived.Below
namespace Go.Proofs.YtbhpfdikkknijaaDoor.crcAdds
open Go.ChangeShapes Go.WideShapes Go.ChangeAt Go.RowKit
set_option linter.unusedVariables false

theorem own : ownKnob Tryd.prog.godebug = none := by kernel_rfl
theorem laidOut : laidOutB Tryd.prog = true := by kernel_rfl

set_option maxRecDepth 100000 in
set_option maxHeartbeats 8000000 in
theorem walk (a0 : Option Addr) (len0 cap0 : Nat) (a1 : Option Addr) (len1 cap1 : Nat) (a2 : Option Addr) (len2 cap2 : Nat) (w : World) (w0 : IsBytesN w a0 len0 cap0) (w1 : IsBytesN w a1 len1 cap1) (w2 : IsBytesN w a2 len2 cap2) (hE : Env w) :
    Calls Tryd.prog 7 #[.slice a0 len0 cap0, .slice a1 len1 cap1, .slice a2 len2 cap2] w fun e w' => e = .returned (.bool true) ∧ Below w.heap.size w w' := by
  obtain ⟨i1, hi', hz0', hz1', hz2'⟩ := info_parts infoB
  obtain ⟨f, hf, hc0, hn0, hr0⟩ := w0
  obtain ⟨g, hg, hc1, hn1, hr1⟩ := w1
  obtain ⟨h, hh, hc2, hn2, hr2⟩ := w2
  have R0 := Lib.hid (hr0 w.heap.size (Nat.le_refl _))
  have R1 := Lib.hid (hr1 w.heap.size (Nat.le_refl _))
  have R2 := Lib.hid (hr2 w.heap.size (Nat.le_refl _))
  have HF := Lib.hid hf
  have HG := Lib.hid hg
  have HH := Lib.hid hh
  clear hr0 hr1 hr2 hf hg hh
  obtain ⟨n, hT0, hT1, hT2, hT3, hmin⟩ : ∃ n : Nat, n ≤ len0 ∧ n ≤ len1 ∧ n ≤ len2 ∧ n ≤ 200 ∧ ∀ w : World, (Builtin.min_ #[TI, TI, TI, TI] TI #[.int .i64 (len0 : Int), .int .i64 (len1 : Int), .int .i64 (len2 : Int), .int .i64 200]).run Tryd.prog w = .ok (.int .i64 (n : Int)) w := by
    refine ⟨min (min (min len0 len1) len2) 200, by omega, by omega, by omega, by omega, fun w => ?_⟩
    rw [run_min4]
    congr 2
    split <;> split <;> split <;> omega
  go_enter Tryd.func7, Tryd.ntmps7
  go_wp2_with fail
  refine (awakeX w hE).mono ?_
  rintro e v1 ⟨rfl, hb1⟩
  have HB := Lib.hid hb1
  have R0 := Lib.hid (R0.out.below hb1)
  have R1 := Lib.hid (R1.out.below hb1)
  have R2 := Lib.hid (R2.out.below hb1)
  clear hb1
  go_wp2_with fail
  clear hmin
  go_loopw [9, 10] (fun s9 s10 wr => ∃ k : Nat, k ≤ n ∧ s10 = .int .i64 k ∧ App v1 TB (u8s (fun i => f i ^^^ g i ^^^ h i)) k s9 wr) (fun _ s10 _ => n - (intOf s10).toNat)
  case atStart => exact ⟨0, Nat.zero_le _, rfl, App.start _ _ _⟩
  case round =>
    obtain ⟨k, hk, rfl, happ⟩ := hrel
    by_cases hlt : k < n
    · obtain ⟨ad, rfl, hq1⟩ := (R0.out.below happ.2).at_ (show k < len0 by omega)
      obtain ⟨ad', rfl, hq2⟩ := (R1.out.below happ.2).at_ (show k < len1 by omega)
      obtain ⟨ad2, rfl, hq3⟩ := (R2.out.below happ.2).at_ (show k < len2 by omega)
      simp only [u8s] at hq1 hq2 hq3
      have hx := HF.out k
      have hy := HG.out k
      have hz := HH.out k
      have hxy := Nat.xor_lt_two_pow (n := 8) hx hy
      have hX1 := u8_xor_nat (f k) (g k) hx hy
      have hX2 := u8_xor_nat (f k ^^^ g k) (h k) hxy hz
      have HAP := Lib.hid happ
      have hsz := happ.2.size
      have hI0 : (k : Int) < (len0 : Int) := by omega
      have hI1 : (k : Int) < (len1 : Int) := by omega
      have hI2 : (k : Int) < (len2 : Int) := by omega
      have hI3 : (k : Int) < (n : Int) := by omega
      have KEEP := Lib.hid (show ∀ w', Below v1.heap.size v1 w' → w'.cell? (ad.add k) = some (.int .u8 (f k : Nat)) ∧ w'.cell? (ad'.add k) = some (.int .u8 (g k : Nat)) ∧ w'.cell? (ad2.add k) = some (.int .u8 (h k : Nat)) from fun w' hb' => by
        obtain ⟨a1, e1, p1⟩ := (R0.out.below hb').at_ (show k < len0 by omega)
        obtain ⟨a2, e2, p2⟩ := (R1.out.below hb').at_ (show k < len1 by omega)
        obtain ⟨a3, e3, p3⟩ := (R2.out.below hb').at_ (show k < len2 by omega)
        injection e1 with e1
        injection e2 with e2
        injection e3 with e3
        subst e1 e2 e3
        exact ⟨p1, p2, p3⟩)
      have HV := Lib.hid (show Value.int .u8 ((f k ^^^ g k ^^^ h k : Nat) : Int) = u8s (fun i => f i ^^^ g i ^^^ h i) k from rfl)
      obtain ⟨x, hfx⟩ : ∃ x, f k = x := ⟨_, rfl⟩
      obtain ⟨y, hgy⟩ : ∃ y, g k = y := ⟨_, rfl⟩
      obtain ⟨z, hhz⟩ : ∃ z, h k = z := ⟨_, rfl⟩
      rw [hfx] at hq1 hX1 hX2 KEEP HV
      rw [hgy] at hq2 hX1 hX2 KEEP HV
      rw [hhz] at hq3 hX2 KEEP HV
      obtain ⟨p, hp⟩ : ∃ p, x ^^^ y = p := ⟨_, rfl⟩
      rw [hp] at hX1 hX2 HV
      obtain ⟨q, hq⟩ : ∃ q, p ^^^ z = q := ⟨_, rfl⟩
      rw [hq] at hX2 HV
      clear happ hfx hgy hhz hp hq hx hy hz hxy
      go_wp2_with fail
      go_region_held3 (fun w' => w'.cell? (ad.add k) = some (.int .u8 (x : Nat)) ∧ w'.cell? (ad'.add k) = some (.int .u8 (y : Nat)) ∧ w'.cell? (ad2.add k) = some (.int .u8 (z : Nat)))
        (first | exact ⟨hq1, hq2, hq3⟩ | exact KEEP.out _ (HAP.out.2.drew.alloc hsz _) | exact KEEP.out _ (HAP.out.drew.step hownx hgx).2 | assumption)
        (first
          | (refine step_append_lies _ rfl (.tmp 24) (.tmp 39) TBs rfl v1.heap.size TB i1 (.int .u8 0) 1 1 Tryd.underlying23 hi' hz0' hz1' hz2' rfl (by decide) _ k _ (by simp [Act.eval]) (HAP.out.1.alloc _) ⟨wr.heap.size, 0, none⟩ 1 1 [u8s (fun i => f i ^^^ g i ^^^ h i) k] (by simp [Act.eval]) rfl (news_one HV.out) (one_u8 _) (by omega) (by unfold maxLen; omega) (by omega) (by simp; omega) _ rfl ?_; intro gx cx wx hownx hgx hatx hltx))
      have HE := Lib.hid (HAP.out.drew.step hownx hgx)
      clear hownx hgx hatx hltx
      go_wp2_with fail
      exact ⟨⟨k + 1, hlt, by go_num, HE.out⟩, by simp [intOf]; omega⟩
    · obtain rfl : k = n := by omega
      have hT := happ.2
      obtain ⟨A4, c4, rfl, hc4, _, hr4⟩ := own_rdX happ.1
      have HB4 := Lib.hid (below_tr HB.out hT)
      have Q0 := Lib.hid ((R0.out.take hT0).below hT)
      have Q1 := Lib.hid ((R1.out.take hT1).below hT)
      have Q2 := Lib.hid ((R2.out.take hT2).below hT)
      have Q3 := Lib.hid hr4
      have hlt3 : ∀ j, (fun i => f i ^^^ g i ^^^ h i) j < 256 := fun j => Nat.xor_lt_two_pow (n := 8) (Nat.xor_lt_two_pow (n := 8) (HF.out j) (HG.out j)) (HH.out j)
      have hs0 := fun w => run_headB13 a0 len0 cap0 k (by omega) w
      have hs1 := fun w => run_headB13 a1 len1 cap1 k (by omega) w
      have hs2 := fun w => run_headB13 a2 len2 cap2 k (by omega) w
      have hsA0 := fun w => run_headAtB13 a0 len0 cap0 k (by omega) w
      have hsA1 := fun w => run_headAtB13 a1 len1 cap1 k (by omega) w
      have hsA2 := fun w => run_headAtB13 a2 len2 cap2 k (by omega) w
      have C0 := Lib.hid (fun w1 (hb : Below wr.heap.size wr w1) => csum10 w.heap.size f HF.out a0 k cap0 (by omega) w1 (Q0.out.below hb))
      have C1 := Lib.hid (fun w1 (hb : Below wr.heap.size wr w1) => csum10 w.heap.size g HG.out a1 k cap1 (by omega) w1 (Q1.out.below hb))
      have C2 := Lib.hid (fun w1 (hb : Below wr.heap.size wr w1) => csum10 w.heap.size h HH.out a2 k cap2 (by omega) w1 (Q2.out.below hb))
      have C3 := Lib.hid (fun w1 (hb : Below wr.heap.size wr w1) => csum10 wr.heap.size (fun i => f i ^^^ g i ^^^ h i) hlt3 A4 k c4 (by omega) w1 (Q3.out.below hb))
      have hX := moreF_add HF.out HG.out HH.out k 0
      have hy0 := moreF_lt f k 0
      have hy1 := moreF_lt g k 0
      have hy2 := moreF_lt h k 0
      have hX1 := u32_xor_nat _ _ hy0 hy1
      have hX2 := u32_xor_nat _ _ (Nat.xor_lt_two_pow (n := 32) hy0 hy1) hy2
      obtain ⟨y3, hy3⟩ : ∃ y, moreF (fun i => f i ^^^ g i ^^^ h i) k 0 = y := ⟨_, rfl⟩
      rw [hy3] at C3 hX
      rw [← hX] at hX2
      obtain ⟨y0, hz0⟩ : ∃ y, moreF f k 0 = y := ⟨_, rfl⟩
      obtain ⟨y1, hz1⟩ : ∃ y, moreF g k 0 = y := ⟨_, rfl⟩
      obtain ⟨y2, hz2⟩ : ∃ y, moreF h k 0 = y := ⟨_, rfl⟩
      rw [hz0] at C0 hX1 hX2
      rw [hz1] at C1 hX1 hX2
      rw [hz2] at C2 hX2
      obtain ⟨y4, hy4⟩ : ∃ y, y0 ^^^ y1 = y := ⟨_, rfl⟩
      rw [hy4] at hX1 hX2
      have HD := Lib.hid (Below.refl wr.heap.size wr).drew
      have HW := Lib.hid (show ∀ w1 w', Below wr.heap.size wr w1 → Below w1.heap.size w1 w' → Below wr.heap.size wr w' from fun w1 w' h1 h2 => below_tr h1 h2)
      clear happ hT hr4 hc4 hX hy0 hy1 hy2 hy3 hz0 hz1 hz2 hy4 hlt3 Q0 Q1 Q2 Q3 R0 R1 R2 HB HF HG HH hT0 hT1 hT2 hc0 hc1 hc2 hn0 hn1 hn2
      go_wp2_with fail
      go_region_held3 (fun w' => Below wr.heap.size wr w')
        (first | exact HD.out | assumption | (refine HW.out _ _ ‹_› ?_; assumption))
        (first
          | (go_at_call 10; refine (C0.out _ ?_).mono ?_; assumption; rintro e w' ⟨rfl, hb⟩)
          | (go_at_call 10; refine (C1.out _ ?_).mono ?_; assumption; rintro e w' ⟨rfl, hb⟩)
          | (go_at_call 10; refine (C2.out _ ?_).mono ?_; assumption; rintro e w' ⟨rfl, hb⟩)
          | (go_at_call 10; refine (C3.out _ ?_).mono ?_; assumption; rintro e w' ⟨rfl, hb⟩))
      rename_i hh
      have HE := Lib.hid (below_tr HB4.out hh)
      clear hh C0 C1 C2 C3 HD HW hs0 hs1 hs2 hsA0 hsA1 hsA2
      go_wp2_with fail
      go_ret
      exact ⟨by simp, HE.out⟩

set_option maxRecDepth 100000 in
theorem lifted (os : Os) (started : os.Started) (H : Type) (enc : TypeId × Value → H) :
    ReturnsInHanded {} Tryd.checked os 7 .any (fun w args => (Rows.crcAddsSpec.pre enc Tryd.prog Tryd.f7 Rows.crcAddsRow.domain false w args ∧ laidMetH Tryd.prog laidT w) ∧ sizedMet enc Tryd.prog Tryd.f7 (OpenSpec.ofChange Rows.crcAddsSpec) false w args) (Rows.crcAddsSpec.post enc Tryd.prog Tryd.f7 false true false false) := by
  refine returnsInHanded_of_change_and (C := Tryd.checked) (X := fun w _ => laidMetH Tryd.prog laidT w) (fun _ _ _ hh h => h.of_heap hh) own started (by kernel_rfl) Tryd.func7
    (ChangeSpec.witness_shaped (enc := enc) (C := Tryd.checked) (os := os) (X := fun w _ => laidMetH Tryd.prog laidT w) false (World.doorLaid Tryd.prog 400 os) #[.slice none 0 0, .slice none 0 0, .slice none 0 0] 8 rfl (World.shaped_of_RefB (by kernel_rfl) (by kernel_rfl)) (by kernel_rfl) (by kernel_rfl) (by kernel_rfl) (door_met os _)) ?_
  intro W base args ds gs before hval0 hW hcnd _ hL _
  have hval : ∀ (j : Nat) t v, Tryd.f7.params[j]? = some t → args[j]? = some v → Value.okWide Tryd.prog W .any base t v := hval0
  have hW' := hW
  obtain ⟨p, q, hA0, hV, rfl, hfz, hnd⟩ := hW
  have hA : DataW.TrodAll enc Tryd.prog W 0 (fun _ => true) true Tryd.f7.params.toList args.toList ds p := hA0
  rw [Tryd.params7] at hA hval
  obtain ⟨v0, vs0, d0, ds0, p0, q0, hargs, rfl, rfl, h0, r0⟩ := trodAll_cons hA
  obtain ⟨v1, vs1, d1, ds1, p1, q1, rfl, rfl, rfl, h1, r1⟩ := trodAll_cons r0
  obtain ⟨v2, vs2, d2, ds2, p2, q2, rfl, rfl, rfl, h2, r2⟩ := trodAll_cons r1
  obtain ⟨rfl, rfl, rfl⟩ := trodAll_nil r2
  obtain rfl : args = #[v0, v1, v2] := by cases args; simp_all
  obtain ⟨rfl, rfl⟩ := trodVars_none hV
  obtain ⟨a0, len0, cap0, rfl⟩ := okWide_slice Tryd.underlying23 (hval 0 23 v0 rfl rfl)
  have k0 := h0
  have lt0 : ∀ x ∈ p0, x.block < W.heap.size := by obtain ⟨m, hm⟩ := k0; exact DataW.trod_lt m _ _ _ hm
  have w0 : IsBytesN W a0 len0 cap0 := by
    obtain ⟨fuel, hf⟩ := h0
    exact bytesn_in hf
  obtain ⟨a1, len1, cap1, rfl⟩ := okWide_slice Tryd.underlying23 (hval 1 23 v1 rfl rfl)
  have k1 := h1
  have lt1 : ∀ x ∈ p1, x.block < W.heap.size := by obtain ⟨m, hm⟩ := k1; exact DataW.trod_lt m _ _ _ hm
  have w1 : IsBytesN W a1 len1 cap1 := by
    obtain ⟨fuel, hf⟩ := h1
    exact bytesn_in hf
  obtain ⟨a2, len2, cap2, rfl⟩ := okWide_slice Tryd.underlying23 (hval 2 23 v2 rfl rfl)
  have k2 := h2
  have lt2 : ∀ x ∈ p2, x.block < W.heap.size := by obtain ⟨m, hm⟩ := k2; exact DataW.trod_lt m _ _ _ hm
  have w2 : IsBytesN W a2 len2 cap2 := by
    obtain ⟨fuel, hf⟩ := h2
    exact bytesn_in hf
  clear hA0 hval0
  refine (walk a0 len0 cap0 a1 len1 cap1 a2 len2 cap2 W w0 w1 w2 (env_of_laid hL)).mono fun e W' ⟨he, bel⟩ => ?_
  subst he
  exact ⟨_, rfl, _, _, _, [], _, [], hW', trodAll_mk1 (shut_bool Tryd.underlying4 _), (trodAll_cons_mk (Below.trod laidOut (by kernel_rfl) (of_decide_eq_true (by kernel_rfl)) k0 bel lt0) (trodAll_cons_mk (Below.trod laidOut (by kernel_rfl) (of_decide_eq_true (by kernel_rfl)) k1 bel lt1) (trodAll_cons_mk (Below.trod laidOut (by kernel_rfl) (of_decide_eq_true (by kernel_rfl)) k2 bel lt2) trodAll_mk0))), rfl, bel.frame _, fun h => by cases h⟩

theorem over : Rows.crcAddsRow.holds Tryd.pinned (OpenSpec.ofChange Rows.crcAddsSpec) :=
  OpenClaim.holds_of_wide 7 Tryd.f7 rfl rfl rfl rfl rfl rfl rfl ⟨rfl, rfl, rfl, rfl, rfl⟩ rfl rfl rfl rfl rfl (by kernel_rfl) Tryd.func7 (by kernel_rfl)
    (of_decide_eq_true (by kernel_rfl)) (by unfold Func.isWrapper; first | (rw [if_pos (by decide +kernel)]; kernel_rfl) | (rw [if_neg (by decide +kernel)]; exact ⟨rfl, rfl⟩))
    (fun os started H enc _ => lifted os started H enc)

theorem proved : Rows.CrcAddsCardSaid :=
  Claim7.holds_tied_plain_at .later [] [.data, .data, .data, .sentinel, .sentinel] true Rows.crcAddsCard.stood.harness true
    over (fun _ h => by cases h) (by kernel_rfl) (fun _ h => by cases h) crcAdds_row_tie rfl ⟨rfl, rfl⟩ (by kernel_rfl) rfl
    (fun f fn hf hfn => by
      obtain rfl : f = 7 := Option.some.inj ((show Tryd.prog.funcNamed "gambrel/gambrellaw13.CrcAdds" = some 7 by kernel_rfl).symm.trans hf) |>.symm
      obtain rfl : fn = Tryd.f7 := (Option.some.inj (Tryd.func7.symm.trans hfn)).symm
      exact ⟨by kernel_rfl, fun j t ht => by
        rw [Tryd.params7] at ht
        have hm : t ∈ [23, 23, 23] := by simpa using Array.mem_of_getElem? ht
        have hall : ([23, 23, 23].all fun u => !Tryd.prog.wantsStandIn u) = true := by kernel_rfl
        exact (show Tryd.prog.wantsStandIn t = false by simpa using List.all_eq_true.1 hall t hm)⟩)
    (by kernel_rfl)
end Go.Proofs.YtbhpfdikkknijaaDoor.crcAdds
