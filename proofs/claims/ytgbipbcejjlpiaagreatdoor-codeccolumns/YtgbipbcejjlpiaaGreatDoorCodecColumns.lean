/- CodecColumns: for all three bytes, any bytes, and any cut, the first bytes of all shards of what is encoded are verified too (its law asks for 300 bytes at most). Condition: the package-level variable gambrel/profile.table holds, when the call begins, what the text of the program lays there; the card ties that to the text, over the pruned copy of the project that the seat holds. -/
import Derived.Test.YtgbipbcejjlpiaaGreatDoorRows
import Derived.Test.YtgbipbcejjlpiaaGreatDoorPrh
import Derived.Test.YtgbipbcejjlpiaaGreatDoorGyd
import Derived.Test.YtgbipbcejjlpiaaGreatDoorGxx
import Derived.Test.YtgbipbcejjlpiaaGreatDoorGxv
import Derived.Test.YtgbipbcejjlpiaaGreatDoorGxv
import Derived.Test.YtgbipbcejjlpiaaGreatDoorArr
import Derived.Test.YtgbipbcejjlpiaaGreatDoorCards
import Derived.Test.YtgbipbcejjlpiaaGreatDoorTie
import Derived.SevenTiedAt
import Derived.ChangeMaps5
import Derived.Deep.RegionHeld3
import Derived.WalkKit
import Derived.ProofKit
import Derived.OpenShut
import Derived.ShutString
import Derived.ChangeOld
import Derived.Below
namespace Go.Proofs.YtgbipbcejjlpiaaGreatDoor.codecColumns
open Go.ChangeShapes Go.WideShapes Go.ChangeAt Go.RowKit
set_option linter.unusedVariables false

theorem own : ownKnob Tryz.prog.godebug = none := by kernel_rfl
theorem laidOut : laidOutB Tryz.prog = true := by kernel_rfl

theorem run_headB (A : Option Addr) (q c k : Nat) (h : k ≤ c) (w : World) : (Instr.slice TBs (.slice A q c) none (some (.int .i64 (k : Int))) none).run Tryz.prog w = .ok (.slice A k c) w := by
  have hu : Tryz.prog.underlying TBs = some (.slice (Tryz.prog.elem TBs)) := by rw [elemB]; exact Tryz.underlying34
  rw [run_slice_h w TBs A q c hu .i64 (k : Int) (by omega) (by omega), elemB, sizeB]
  cases A <;> simp [Result.andThen, sliced, Addr.add]
/-- in the law's loop -/
def ColAt (N C : Nat) (As : Nat → Option Addr) (Cs : Nat → Nat) (w : World) (s12 s13 : Value) (wr : World) : Prop := ∃ i : Nat, i ≤ N ∧ s13 = .int .i64 i ∧ App w TBs (slis As (fun _ => C) Cs) i s12 wr

set_option maxRecDepth 100000 in
set_option maxHeartbeats 8000000 in
theorem walk (a0 b0 c0 : Int) (a1 : Option Addr) (len1 cap1 : Nat) (a2 : Int) (w : World) (w0 : (0 ≤ a0 ∧ a0 ≤ 255) ∧ (0 ≤ b0 ∧ b0 ≤ 255) ∧ 0 ≤ c0 ∧ c0 ≤ 255) (w1 : IsBytesN w a1 len1 cap1) (hcut : 0 ≤ a2 ∧ a2 ≤ 255) (hT : Tab w) :
    Calls Tryz.prog 7 #[.agg (arr3 a0 b0 c0), .slice a1 len1 cap1, .int .u8 a2] w fun e w' => e = .returned (.bool true) ∧ Below w.heap.size w w' := by
  obtain ⟨i0, hi, hz0, hz1, hz2⟩ := info_parts infoS
  obtain ⟨f, hf, _, _, hr⟩ := w1
  have HA := Lib.hid w0
  have h0 := hT.lt
  have HR := Lib.hid (hr w.heap.size (Nat.le_refl _))
  have HF := Lib.hid hf
  obtain ⟨u, hu⟩ : ∃ u, w.alloc (.cells #[.int .u8 a0, .int .u8 b0, .int .u8 c0] T3u) = u := ⟨_, rfl⟩
  obtain ⟨s0, e0, hbu⟩ := one_box hu
  have HTU := Lib.hid (hT.below hbu)
  have HU := Lib.hid hbu
  have E0 := Lib.hid e0
  clear s0 e0 hbu hT w0 hr hf
  go_enter Tryz.func7, Tryz.ntmps7
  go_wp2_with fail
  refine (awakeK _ HTU.out).mono ?_
  rintro e w1 ⟨rfl, hb1⟩
  have H1 := Lib.hid (below_tr HU.out hb1)
  have HT1 := Lib.hid (HTU.out.below hb1)
  have y1 := kept_box E0.out hb1
  clear hb1 HTU HU E0 hu
  by_cases hl : 300 < len1
  · go_wp2_with fail
    go_ret
    exact ⟨rfl, H1.out⟩
  go_wp2_with (refine wpList_load_row rfl T3u _ rfl w.heap.size rfl T3u _ (0, 0) _ y1 Tryz.underlying38 rfl size3u ?_)
  refine (some20 a0 b0 c0 HA.out.1 HA.out.2.1 HA.out.2.2 _).mono ?_
  rintro e w2 ⟨p, k, m, rfl, hX, hb2⟩
  obtain ⟨K, rfl⟩ : ∃ K : Nat, k = (K : Int) := ⟨k.toNat, by have := hX.2.1; omega⟩
  obtain ⟨M, rfl⟩ : ∃ M : Nat, m = (M : Int) := ⟨m.toNat, by have := hX.2.2.1; omega⟩
  have hK := hX.2.1
  have hM : 1 ≤ M ∧ M ≤ 4 := by have := hX.2.2; have := (max_pos hX.1).2; omega
  have HX := Lib.hid hX
  obtain ⟨v, hv⟩ : ∃ v, w2.alloc (.cells #[.int .i64 p, .int .i64 K, .int .i64 M] TPa) = v := ⟨_, rfl⟩
  obtain ⟨s2, e2, hbv⟩ := one_box hv
  have H3 := Lib.hid (below_tr H1.out (below_tr hb2 hbv))
  have HT3 := Lib.hid (HT1.out.below (below_tr hb2 hbv))
  have E2 := Lib.hid e2
  have hE : szE p K M len1 = 0 := (if_pos ⟨HX.out, by omega⟩).trans (if_pos (by omega))
  have HSE := Lib.hid (sz_even hE)
  have hsm : szN p K M len1 ≤ 1000 := by
    rw [(szE_ok HX.out (by omega)).1]
    have h1 := szU_le (u := unitL (layI p)) (K := K) (m := aheadL (layI p) + len1) (unitL_pos _).1 (by omega)
    have h2 := unitL_pos (layI p)
    have h3 := aheadL_le (layI p)
    omega
  have HENC := Lib.hid (enc16' w.heap.size p K M f HF.out a1 len1 cap1 (by omega) v HT3.out (HR.out.below H3.out))
  have HEN : encN p K M len1 = K + M := (if_pos hE).trans (by simp only [Int.toNat_natCast])
  unfold EncC EncSaid at HENC
  rw [HEN, hE] at HENC
  simp only [Int.toNat_natCast] at HENC
  obtain ⟨S, hS⟩ : ∃ S, szN p K M len1 = S := ⟨_, rfl⟩
  rw [hS] at HENC hsm HSE
  have HVE := Lib.hid (ver_enc (p := p) (K := K) (m := M) (S := S) (n := len1) (f := f) HX.out HSE.out)
  have HGL := Lib.hid (fun r j => encF_lt (p := p) (K := K) (m := M) (S := S) (n := len1) HF.out r j)
  obtain ⟨G, hG⟩ : ∃ G, encF p K M S len1 f = G := ⟨_, rfl⟩
  rw [hG] at HENC HVE HGL
  obtain ⟨d0, d1, d2⟩ := box_three e2
  have hvs : w2.heap.size < v.heap.size := by omega
  clear hE HEN hS hG s2 e2 hbv HR HF hb2 hX H1 HT1 y1 HA
  go_wp2_with fail
  refine HENC.out.mono ?_
  rintro e w4 ⟨⟨v4, rfl, A4, c4, rfl, hc4, hx4, hb4⟩, hcp⟩
  have H4 := Lib.hid (below_tr H3.out hb4)
  have HT4 := Lib.hid (HT3.out.below hb4)
  have E4 := Lib.hid (kept_box E2.out hb4)
  obtain ⟨As, Cs, hq1, hq2⟩ := hx4 0 (by omega)
  have HQ1 := Lib.hid hq1
  have HQ2 := Lib.hid hq2
  have HCP := Lib.hid (fun r (hr : r < K + M) => (hcp _ _ _ _ rfl).room hq1 hr)
  have hw4 : 0 < w4.heap.size := by have := hb4.size; omega
  obtain ⟨ad, rfl, c1⟩ := hq1.at_ (show 0 < K + M by omega)
  rw [show ad.add 0 = ad by simp [Addr.add]] at c1
  simp only [slis] at c1
  clear hx4 hb4 d0 d1 d2 hq1 hq2 HENC hv H3 HT3 E2 hcp
  obtain ⟨d0, d1, d2⟩ := box_three E4.out
  obtain ⟨H, hH⟩ : ∃ H : Nat, (S : Int) / 2 = (H : Int) := ⟨S / 2, by omega⟩
  have hH2 : 2 * H ≤ S := by omega
  obtain ⟨R, hR⟩ : ∃ R : Nat, a2 % ((H : Int) + 1) = (R : Int) := ⟨(a2 % ((H : Int) + 1)).toNat, by have := Int.emod_nonneg a2 (show (H : Int) + 1 ≠ 0 by omega); omega⟩
  have hR2 : R ≤ H := by have := Int.emod_lt_of_pos a2 (show 0 < (H : Int) + 1 by omega); omega
  have hRt : a2.tmod ((H : Int) + 1) = (R : Int) := by rw [Int.tmod_eq_emod_of_nonneg hcut.1]; exact hR
  have hHt : (S : Int).tdiv 2 = (H : Int) := by rw [Int.tdiv_eq_ediv_of_nonneg (by omega)]; exact hH
  have hpos : ¬ (H : Int) + 1 = 0 := by omega
  have hKM0 : (0 : Int) < ((K + M : Nat) : Int) := by omega
  obtain ⟨C, hC⟩ : ∃ C : Nat, (R : Int) * 2 = (C : Int) := ⟨R * 2, by omega⟩
  have hCS : C ≤ S := by omega
  have HCE := Lib.hid (show C % nP p = 0 by unfold nP; split <;> omega)
  go_wp2_with fail
  clear c1 d0 d1 d2 hH hR hRt hHt hpos hKM0 hC hH2 hR2 hcut
  go_loopw [12, 13] (fun s12 s13 wr => ColAt (K + M) C As Cs w4 s12 s13 wr) (fun _ s13 _ => K + M - (intOf s13).toNat)
  case atStart => exact ⟨0, Nat.zero_le _, rfl, App.start _ _ _⟩
  case round =>
    obtain ⟨i, hiN, rfl, happ⟩ := hrel
    have HAPP := Lib.hid happ
    have hb := happ.2
    have hzr := hb.size
    clear happ
    have hNI : ((K + M : Nat) : Int) = (K : Int) + (M : Int) := by omega
    by_cases hlt : i < K + M
    · have c1 : wr.cell? (ad.add i) = some (.slice (As i) S (Cs i)) := by
        obtain ⟨ad', e', h5⟩ := (HQ1.out.below hb).at_ hlt
        injection e' with e'
        subst e'
        exact h5
      have hc := HCP.out i hlt
      have hh := run_headB (As i) S (Cs i) C (by omega)
      have hSC : ¬ (S : Int) < (C : Int) := by omega
      have hltI : (i : Int) < ((K + M : Nat) : Int) := by omega
      clear hb
      go_wp2_with (at_builtin; refine wpList_append_lies _ rfl _ _ TRs rfl w4.heap.size TBs i0 nilS 1 24 Tryz.underlying24 hi hz0 hz1 hz2 rfl (by decide) _ i _ rfl (HAPP.out.1.alloc _) ⟨wr.heap.size, 0, none⟩ 1 1 [.slice (As i) C (Cs i)] rfl rfl (news_one rfl) (one_slice' _ _ _) (by omega) (by unfold maxLen; omega) (by omega) (by simp; omega) _ rfl ?_)
      intro g' cap' w7 hown2 hgr2 hg2 _
      have HS := Lib.hid (App.step (K := slis As (fun _ => C) Cs) HAPP.out hown2 hgr2)
      clear hown2 hgr2 hg2
      go_wp2_with fail
      exact ⟨⟨i + 1, hlt, by go_num, HS.out⟩, by simp [intOf]; omega⟩
    · obtain rfl : i = K + M := by omega
      obtain ⟨A5, c5, rfl, hc5, hr5⟩ := HAPP.out.rd hw4
      have HV := Lib.hid (ver14 0 p K M As (fun _ => C) Cs G HGL.out A5 (K + M) c5 (by omega) hc5 (fun _ _ => by omega) wr (HT4.out.below hb) (by omega) hr5 (fun r hr => ((HQ2.out r hr).take hCS).below hb))
      obtain ⟨d0, d1, d2⟩ := box_three (kept_box E4.out hb)
      have H5 := Lib.hid (below_tr H4.out hb)
      clear hb hr5 hzr
      go_wp2_with fail
      refine HV.out.mono ?_
      rintro e w8 ⟨t, rfl, ht, hb8⟩
      obtain rfl : t = true := ht.2 (ver_cut HVE.out (fun _ _ => rfl) hCS HCE.out (fun _ _ _ _ => rfl))
      have H8 := Lib.hid (below_tr H5.out hb8)
      clear ht hb8
      go_wp2_with fail
      go_ret
      exact ⟨rfl, H8.out⟩

set_option maxRecDepth 100000 in
theorem lifted (os : Os) (started : os.Started) (H : Type) (enc : TypeId × Value → H) :
    ReturnsInHanded {} Tryz.checked os 7 .any (fun w args => (Rows.codecColumnsSpec.pre enc Tryz.prog Tryz.f7 Rows.codecColumnsRow.domain false w args ∧ laidMetH Tryz.prog laidT w) ∧ sizedMet enc Tryz.prog Tryz.f7 (OpenSpec.ofChange Rows.codecColumnsSpec) false w args) (Rows.codecColumnsSpec.post enc Tryz.prog Tryz.f7 false true false false) := by
  refine returnsInHanded_of_change_and (C := Tryz.checked) (X := fun w _ => laidMetH Tryz.prog laidT w) (fun _ _ _ hh h => h.of_heap hh) own started (by kernel_rfl) Tryz.func7
    (ChangeSpec.witness_shaped (enc := enc) (C := Tryz.checked) (os := os) (X := fun w _ => laidMetH Tryz.prog laidT w) false (World.doorLaid Tryz.prog 400 os) #[.agg #[.int .u8 0, .int .u8 0, .int .u8 0], .slice none 0 0, .int .u8 0] 8 rfl (World.shaped_of_RefB (by kernel_rfl) (by kernel_rfl)) (by kernel_rfl) (by kernel_rfl) (by kernel_rfl) (door_met os _)) ?_
  intro W base args ds gs before hval0 hW hcnd _ hL _
  have hval : ∀ (j : Nat) t v, Tryz.f7.params[j]? = some t → args[j]? = some v → Value.okWide Tryz.prog W .any base t v := hval0
  have hW' := hW
  obtain ⟨p, q, hA0, hV, rfl, hfz, hnd⟩ := hW
  have hA : DataW.TrodAll enc Tryz.prog W 0 (fun _ => true) true Tryz.f7.params.toList args.toList ds p := hA0
  rw [Tryz.params7] at hA hval
  obtain ⟨v0, vs0, d0, ds0, p0, q0, hargs, rfl, rfl, h0, r0⟩ := trodAll_cons hA
  obtain ⟨v1, vs1, d1, ds1, p1, q1, rfl, rfl, rfl, h1, r1⟩ := trodAll_cons r0
  obtain ⟨v2, vs2, d2, ds2, p2, q2, rfl, rfl, rfl, h2, r2⟩ := trodAll_cons r1
  obtain ⟨rfl, rfl, rfl⟩ := trodAll_nil r2
  obtain rfl : args = #[v0, v1, v2] := by cases args; simp_all
  obtain ⟨rfl, rfl⟩ := trodVars_none hV
  obtain ⟨cs0, rfl, hsz0, _⟩ : ∃ cs, v0 = .agg cs ∧ cs.size = Tryz.prog.cellsOf 38 ∧ Row.okWide Tryz.prog W .any base 38 cs := by
    have := hval 0 38 v0 rfl rfl
    simpa [Value.okWide, Tryz.underlying38] using this
  rw [show Tryz.prog.cellsOf 38 = 3 by kernel_rfl] at hsz0
  obtain ⟨l0⟩ := cs0
  obtain ⟨e0, f0, g0, rfl⟩ := list3 l0 hsz0
  have k0 := h0
  have lt0 : ∀ x ∈ p0, x.block < W.heap.size := by obtain ⟨m, hm⟩ := k0; exact DataW.trod_lt m _ _ _ hm
  obtain ⟨fuel0, hf0⟩ := h0
  obtain ⟨a0, b0, c0, rfl, rfl, rfl, w0⟩ := three_in hf0
  obtain ⟨a1, len1, cap1, rfl⟩ := okWide_slice Tryz.underlying34 (hval 1 34 v1 rfl rfl)
  have k1 := h1
  have lt1 : ∀ x ∈ p1, x.block < W.heap.size := by obtain ⟨m, hm⟩ := k1; exact DataW.trod_lt m _ _ _ hm
  have w1 : IsBytesN W a1 len1 cap1 := by
    obtain ⟨fuel, hf⟩ := h1
    exact bytesn_in hf
  obtain ⟨a2, rfl, rfl, rfl, w2⟩ := open_int Tryz.underlying5 (hval 2 5 v2 rfl rfl) h2
  clear hA0 hval0
  refine (walk a0 b0 c0 a1 len1 cap1 a2 W w0 w1 (bounds_u8 w2) (tab_of_laid hL)).mono fun e W' ⟨he, bel⟩ => ?_
  subst he
  exact ⟨_, rfl, _, _, _, [], _, [], hW', trodAll_mk1 (shut_bool Tryz.underlying4 _), (trodAll_cons_mk (Below.trod laidOut (by kernel_rfl) (of_decide_eq_true (by kernel_rfl)) k0 bel lt0) (trodAll_cons_mk (Below.trod laidOut (by kernel_rfl) (of_decide_eq_true (by kernel_rfl)) k1 bel lt1) (trodAll_cons_mk (shut_int Tryz.underlying5 w2) trodAll_mk0))), rfl, bel.frame _, fun h => by cases h⟩

theorem over : Rows.codecColumnsRow.holds Tryz.pinned (OpenSpec.ofChange Rows.codecColumnsSpec) :=
  OpenClaim.holds_of_wide 7 Tryz.f7 rfl rfl rfl rfl rfl rfl rfl ⟨rfl, rfl, rfl, rfl, rfl⟩ rfl rfl rfl rfl rfl (by kernel_rfl) Tryz.func7 (by kernel_rfl)
    (of_decide_eq_true (by kernel_rfl)) (by unfold Func.isWrapper; first | (rw [if_pos (by decide +kernel)]; kernel_rfl) | (rw [if_neg (by decide +kernel)]; exact ⟨rfl, rfl⟩))
    (fun os started H enc _ => lifted os started H enc)

theorem proved : Rows.CodecColumnsCardSaid :=
  Claim7.holds_tied_plain_at .later [] [.data] true Rows.codecColumnsCard.stood.harness false
    over (fun _ h => by cases h) (by kernel_rfl) (fun _ h => by cases h) codecColumns_row_tie rfl ⟨rfl, rfl⟩ (by kernel_rfl) rfl
    (fun f fn hf hfn => by
      obtain rfl : f = 7 := Option.some.inj ((show Tryz.prog.funcNamed "gambrel/gambrellaw11.CodecColumns" = some 7 by kernel_rfl).symm.trans hf) |>.symm
      obtain rfl : fn = Tryz.f7 := (Option.some.inj (Tryz.func7.symm.trans hfn)).symm
      exact ⟨by kernel_rfl, fun j t ht => by
        rw [Tryz.params7] at ht
        have hm : t ∈ [38, 34, 5] := by simpa using Array.mem_of_getElem? ht
        have hall : ([38, 34, 5].all fun u => !Tryz.prog.wantsStandIn u) = true := by kernel_rfl
        exact (show Tryz.prog.wantsStandIn t = false by simpa using List.all_eq_true.1 hall t hm)⟩)
    (by kernel_rfl)
end Go.Proofs.YtgbipbcejjlpiaaGreatDoor.codecColumns
