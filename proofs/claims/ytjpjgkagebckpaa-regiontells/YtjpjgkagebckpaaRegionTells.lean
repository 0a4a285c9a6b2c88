/- Proved: for either field, any numbers and any rows of bytes the law RegionTells answers true (bytes times a number, two together, and rows, each times a number, together, are as the document says, or refused as it says), and its arguments read as they did. No conditions. -/
import Derived.Test.YtjpjgkagebckpaaRows
import Derived.Test.YtjpjgkagebckpaaRge
import Derived.Deep.Matrix
import Derived.Deep.RegionHeld3
import Derived.WalkKit
import Derived.ProofKit
import Derived.OpenShut
import Derived.ShutString
import Derived.ChangeOld
import Derived.Below
namespace Go.Proofs.Ytjpjgkagebckpaa.regionTells
open Go.ChangeShapes Go.WideShapes Go.ChangeAt Go.RowKit
open Go.ChangeMaps (open_string shut_string)
set_option linter.unusedVariables false

theorem own : ownKnob Try.prog.godebug = none := by kernel_rfl
theorem laidOut : laidOutB Try.prog = true := by kernel_rfl

/-- a slice of integers that came in: nil, or a row of numbers -/
def IsRow (k : IntKind) (w : World) (a : Option Addr) (len cap : Nat) (zs : List Int) : Prop :=
  (a = none ∧ len = 0 ∧ cap = 0 ∧ zs = []) ∨
  ∃ x, a = some x ∧ len ≤ cap ∧ cap ≤ maxLen ∧ zs.length = cap ∧ (∀ i, i < zs.length → w.cell? (x.add i) = some (.int k (zs.getD i 0))) ∧ ∀ n ∈ zs, (Lit.int k n).wf = true

/-- rows of bytes that came in -/
def IsRows (w : World) (a : Option Addr) (len cap : Nat) : Prop :=
  ∃ (As : Nat → Option Addr) (Ls Cs : Nat → Nat) (F : Nat → Nat → Nat), (∀ r j, F r j < 256) ∧ len ≤ cap ∧ (∀ b, w.heap.size ≤ b → Rd b w (slis As Ls Cs) a len) ∧ ∀ r, r < len → ∀ b, w.heap.size ≤ b → Rd b w (u8s (F r)) (As r) (Ls r)
theorem isRows_nil (w : World) : IsRows w none 0 0 := ⟨fun _ => none, fun _ => 0, fun _ => 0, fun _ _ => 0, fun _ _ => Nat.zero_lt_succ _, Nat.le_refl _, fun _ _ => Rd.zero, fun r hr => absurd hr (by omega)⟩
theorem isRows_of {w : World} {a : Addr} {len cap : Nat} {A : Nat → Option Addr} {L C : Nat → Nat} {Z : Nat → List Int} (hl : len ≤ cap)
    (h : ∀ r, r < cap → w.cell? (a.add r) = some (.slice (A r) (L r) (C r)) ∧ L r ≤ C r ∧ (Z r).length = C r ∧ (∀ n ∈ Z r, (Lit.int .u8 n).wf = true) ∧ (A r = none → C r = 0) ∧ ∀ a', A r = some a' → ∀ c, c < C r → w.cell? (a'.add c) = some (.int .u8 ((Z r).getD c 0))) :
    IsRows w (some a) len cap := by
  refine ⟨A, L, C, fun r j => ((Z r).getD j 0).toNat % 256, fun r j => Nat.mod_lt _ (by omega), hl, fun b hb hn => ⟨a, rfl, ?_, ?_, fun j hj => (h j (by omega)).1⟩, fun r hr b hb hn => ?_⟩
  · have := lt_of_cell (h 0 (by omega)).1
    rw [block_of_add] at this
    omega
  · have := lt_of_cell (h 0 (by omega)).1
    rwa [block_of_add] at this
  · obtain ⟨_, h2, h3, h4, h5, h6⟩ := h r (by omega)
    rcases hA : A r with _ | a'
    · have := h5 hA
      omega
    · have hc := h6 a' hA
      have hlt := lt_of_cell (hc 0 (by omega))
      rw [block_of_add] at hlt
      refine ⟨a', rfl, by omega, hlt, fun j hj => ?_⟩
      rw [hc j (by omega)]
      have := range_u8 h4 j
      simp only [u8s, List.getD_eq_getElem?_getD]
      congr 2
      omega

/-- in the law's loop -/
def TellsAt (p b wd N N' : Nat) (w : World) (s15 : Value) (wr : World) : Prop := ∃ k : Nat, k ≤ N ∧ k ≤ N' ∧ s15 = .int .i64 k ∧ Live p b wd w wr

set_option maxRecDepth 100000 in
set_option maxHeartbeats 8000000 in
theorem walk (a0 : Bool) (a1 : Option Addr) (len1 cap1 : Nat) (z1 : List Int) (a2 : Option Addr) (len2 cap2 : Nat) (w : World) (w1 : IsRow .i64 w a1 len1 cap1 z1) (w2 : IsRows w a2 len2 cap2) :
    Calls Try.prog 4 #[.bool a0, .slice a1 len1 cap1, .slice a2 len2 cap2] w fun e w' => e = .returned (.bool true) ∧ Below w.heap.size w w' := by
  obtain ⟨hc1, hr1⟩ := rd_in w1
  obtain ⟨cs, hl⟩ : ∃ l : Nat → Int, (fun j => z1.getD j 0) = l := ⟨_, rfl⟩
  have hr1' : ∀ b, w.heap.size ≤ b → Rd b w (i64s cs) a1 len1 := fun b hb => by rw [← hl]; exact hr1 b hb
  obtain ⟨As, Ls, Cs, F, hF, hc2, hr2, hrs⟩ := w2
  have HR1 := Lib.hid hr1'
  have HR2 := Lib.hid hr2
  have HRS := Lib.hid hrs
  clear w1 hr1 hr1' hl hr2 hrs
  go_enter Try.func4, Try.ntmps4
  go_wp2_with fail
  refine (awakeR _).mono ?_
  rintro e w1 ⟨rfl, hb1⟩
  have H1 := Lib.hid hb1
  clear hb1
  go_wp2_with fail
  refine (few18 w.heap.size As Ls Cs a2 len2 cap2 _ ((HR2.out _ (Nat.le_refl _)).turned (Turned.of_below H1.out))).mono ?_
  rintro e w' ⟨t, rfl, ht, rfl⟩
  cases t
  · clear ht
    go_wp2_with fail
    go_ret
    exact ⟨rfl, H1.out⟩
  obtain ⟨hN', hLs⟩ := ht rfl
  have HLS := Lib.hid hLs
  clear ht hLs
  by_cases b1 : 10 < len1
  · go_wp2_with fail
    go_ret
    exact ⟨rfl, H1.out⟩
  go_wp2_with fail
  refine (field10 _ _).mono ?_
  rintro e w2 ⟨p, wd, n, b, hw, rfl, hFl, hn, hb2⟩
  have hg := hFl.1
  have hL := Live.start H1.out hFl hn hb2
  have HL := Lib.hid hL
  have hlow := hL.2.2
  have HW := Lib.hid hw
  have HK := Lib.hid (show ∀ w', Below w.heap.size w w' → Rd b w' (i64s cs) a1 len1 ∧ Rd b w' (slis As Ls Cs) a2 len2 ∧ ∀ r, r < len2 → Rd b w' (u8s (F r)) (As r) (Ls r) from fun w' hb' =>
    ⟨(HR1.out b hlow).turned (Turned.of_below hb'), (HR2.out b hlow).turned (Turned.of_below hb'), fun r hr => (HRS.out r hr b hlow).turned (Turned.of_below hb')⟩)
  clear hFl hn hb2 H1 hL HR1 HR2 HRS hw
  have hL1 : ∀ r, r < len2 → Ls r ≤ 1000 := fun r hr => by have := HLS.out r hr; omega
  have HL1 := Lib.hid hL1
  clear hL1
  go_wp2_with fail
  refine (dot_any p b wd n HW.out cs F hF a1 len1 len2 cap1 cap2 (by omega) As Ls Cs a2 HL1.out _ HL.out.1 (HK.out _ HL.out.2.1).1 (HK.out _ HL.out.2.1).2.1 hc2 (HK.out _ HL.out.2.1).2.2).mono ?_
  rintro e w3 ⟨t3, A3, c3, rfl, ht3, hrd3, hF3, hT3⟩
  have HL3 := Lib.hid (HL.out.next hF3 hT3)
  have hbl3 := hF3.lt
  have X3 := Lib.hid hrd3
  have HT3 := Lib.hid ht3
  clear hrd3 hF3 hT3 ht3 HL
  go_wp2_with fail
  refine (rdot20 p b wd n hg HW.out cs F hF a1 len1 len2 cap1 cap2 (by omega) As Ls Cs a2 HL1.out _ hbl3 (HK.out _ HL3.out.2.1).1 (HK.out _ HL3.out.2.1).2.1 (HK.out _ HL3.out.2.1).2.2).mono ?_
  rintro e w4 ⟨t4, v4, rfl, ht4, A4, c4, rfl, _, hrd4, hb4⟩
  obtain rfl : t4 = t3 := Bool.eq_iff_iff.2 (ht4.trans HT3.out.symm)
  have HL4 := Lib.hid (HL3.out.below hb4)
  have X4 := Lib.hid (X3.out.below hb4)
  have Y4 := Lib.hid hrd4
  clear hrd4 hb4 ht4 HT3 HL3 X3 hbl3
  go_wp2_with fail
  refine (was15 t4 _).mono ?_
  rintro e w' ⟨rfl, rfl⟩
  go_wp2_with fail
  refine (same17 b b _ _ A3 A4 _ c3 c4 _ X4.out Y4.out (fun _ _ => rfl)).mono ?_
  rintro e w' ⟨rfl, rfl⟩
  go_wp2_with fail
  go_loopw [15] (fun s15 wr => TellsAt p b wd len1 len2 w s15 wr) (fun s15 _ => len1 - (intOf s15).toNat)
  case atStart => exact ⟨0, Nat.zero_le _, Nat.zero_le _, rfl, HL4.out⟩
  case round =>
    clear X4 Y4 HL4
    obtain ⟨k, hk1, hk2, rfl, hL⟩ := hrel
    have HL := Lib.hid hL
    clear hL
    by_cases hlt2 : k < len2
    · by_cases hlt1 : k < len1
      · have hLk := HL1.out k hlt2
        have hL0 := HL1.out 0 (by omega)
        have KEEP0 := Lib.hid (show ∀ w', Below w.heap.size w w' → ∃ ad ad' : Addr, a1 = some ad ∧ a2 = some ad' ∧ w'.cell? (ad.add k) = some (.int .i64 (cs k)) ∧ w'.cell? (ad'.add k) = some (.slice (As k) (Ls k) (Cs k)) ∧ w'.cell? ad' = some (.slice (As 0) (Ls 0) (Cs 0)) from fun w' hb' => by
          obtain ⟨hx, hy, _⟩ := HK.out w' hb'
          obtain ⟨x1, e1, h1⟩ := hx.at_ hlt1
          obtain ⟨x2, e2, h2⟩ := hy.at_ hlt2
          obtain ⟨x3, e3, h3⟩ := hy.at_ (show 0 < len2 by omega)
          rw [e2] at e3
          injection e3 with e3
          subst e3
          exact ⟨x1, x2, e1, e2, h1, h2, by simpa [Addr.add] using h3⟩)
        obtain ⟨ad, ad', rfl, rfl, d1, d2, d3⟩ := KEEP0.out wr HL.out.2.1
        have KEEP := Lib.hid (show ∀ w', Below w.heap.size w w' → w'.cell? (ad.add k) = some (.int .i64 (cs k)) ∧ w'.cell? (ad'.add k) = some (.slice (As k) (Ls k) (Cs k)) ∧ w'.cell? ad' = some (.slice (As 0) (Ls 0) (Cs 0)) from fun w' hb' => by
          obtain ⟨x1, x2, e1, e2, h⟩ := KEEP0.out w' hb'
          injection e1 with e1
          injection e2 with e2
          subst e1 e2
          exact h)
        clear KEEP0
        have hblr := HL.out.1.lt
        have hz2 : (0 : Int) < (len2 : Int) := by omega
        have hz3 : 0 < len2 := by omega
        go_wp2_with fail
        go_region_held3 (fun w' => w'.cell? (ad.add k) = some (.int .i64 (cs k)) ∧ w'.cell? (ad'.add k) = some (.slice (As k) (Ls k) (Cs k)) ∧ w'.cell? ad' = some (.slice (As 0) (Ls 0) (Cs 0)))
          (first | exact ⟨d1, d2, d3⟩ | exact KEEP.out _ (HL.out.drew.next hFa hTa).2.1 | assumption)
          ((go_at_call 21; refine (mul_any p b wd n HW.out (cs k) (F k) (hF k) (As k) (Ls k) (Cs k) hLk wr.drew HL.out.drew.1 ((HK.out _ HL.out.drew.2.1).2.2 k hlt2)).mono ?_; rintro e wa ⟨ta, Aa, ca, rfl, hta, hrda, hFa, hTa⟩))
        have HLa := Lib.hid (HL.out.drew.next hFa hTa)
        have hbla := hFa.lt
        have Xa := Lib.hid hrda
        have HTa := Lib.hid hta
        obtain ⟨da1, da2, da3⟩ := KEEP.out _ HLa.out.2.1
        clear hrda hFa hTa hta d1 d2 d3 HL hblr
        go_wp2_with fail
        go_region_held3 (fun w' => w'.cell? (ad.add k) = some (.int .i64 (cs k)) ∧ w'.cell? (ad'.add k) = some (.slice (As k) (Ls k) (Cs k)) ∧ w'.cell? ad' = some (.slice (As 0) (Ls 0) (Cs 0)))
          (first | exact ⟨da1, da2, da3⟩ | exact KEEP.out _ (HLa.out.drew.below hbb).2.1 | assumption)
          ((go_at_call 22; refine (rmul22 p b wd n hg HW.out (cs k) (F k) (hF k) (As k) (Ls k) (Cs k) hLk wa.drew hbla ((HK.out _ HLa.out.drew.2.1).2.2 k hlt2)).mono ?_; rintro e wb ⟨tb, vb, rfl, htb, Ab, cb, rfl, hcb, hrdb, hbb⟩))
        obtain rfl : tb = ta := Bool.eq_iff_iff.2 (htb.trans HTa.out.symm)
        have HLb := Lib.hid (HLa.out.drew.below hbb)
        have hblb := HLb.out.1.lt
        have Xb := Lib.hid (show Rd b wb _ Aa _ from (Xa.out.drew).below hbb)
        have Yb := Lib.hid hrdb
        obtain ⟨db1, db2, db3⟩ := KEEP.out _ HLb.out.2.1
        clear hrdb hbb htb HTa da1 da2 da3 HLa hbla Xa hcb
        go_wp2_with fail
        go_region_held3 (fun w' => w'.cell? (ad.add k) = some (.int .i64 (cs k)) ∧ w'.cell? (ad'.add k) = some (.slice (As k) (Ls k) (Cs k)) ∧ w'.cell? ad' = some (.slice (As 0) (Ls 0) (Cs 0)))
          (first | exact ⟨db1, db2, db3⟩ | exact KEEP.out _ (HLb.out.drew.below hbc).2.1 | assumption)
          ((go_at_call 23; refine (add_any b (F k) (F 0) (hF k) (hF 0) (As k) (As 0) (Ls k) (Ls 0) (Cs k) (Cs 0) hLk wb.drew hblb ((HK.out _ HLb.out.drew.2.1).2.2 k hlt2) ((HK.out _ HLb.out.drew.2.1).2.2 0 (by omega))).mono ?_; rintro e wc ⟨tc, vc, rfl, htc, Ac, cc, rfl, hcc, hrdc, hbc⟩))
        have HLc := Lib.hid (HLb.out.drew.below hbc)
        have hblc := HLc.out.1.lt
        have Xc := Lib.hid (show Rd b wc _ Aa _ from (Xb.out.drew).below hbc)
        have Yc := Lib.hid (show Rd b wc _ Ab _ from (Yb.out.drew).below hbc)
        have Zc := Lib.hid hrdc
        have HTc := Lib.hid htc
        obtain ⟨dc1, dc2, dc3⟩ := KEEP.out _ HLc.out.2.1
        clear hrdc hbc htc db1 db2 db3 HLb hblb Xb Yb hcc
        go_wp2_with fail
        go_region_held3 (fun w' => w'.cell? (ad.add k) = some (.int .i64 (cs k)) ∧ w'.cell? (ad'.add k) = some (.slice (As k) (Ls k) (Cs k)) ∧ w'.cell? ad' = some (.slice (As 0) (Ls 0) (Cs 0)))
          (first | exact ⟨dc1, dc2, dc3⟩ | exact KEEP.out _ (HLc.out.drew.below hbd).2.1 | assumption)
          ((go_at_call 24; refine (radd24 b (F k) (F 0) (hF k) (hF 0) (As k) (As 0) (Ls k) (Ls 0) (Cs k) (Cs 0) hLk wc.drew hblc ((HK.out _ HLc.out.drew.2.1).2.2 k hlt2) ((HK.out _ HLc.out.drew.2.1).2.2 0 (by omega))).mono ?_; rintro e wd' ⟨td, vd, rfl, htd, Ad, cd, rfl, hcd, hrdd, hbd⟩))
        obtain rfl : td = tc := Bool.eq_iff_iff.2 (htd.trans HTc.out.symm)
        have HLd := Lib.hid (HLc.out.drew.below hbd)
        have Xd := Lib.hid (show Rd b wd' _ Aa _ from (Xc.out.drew).below hbd)
        have Yd := Lib.hid (show Rd b wd' _ Ab _ from (Yc.out.drew).below hbd)
        have Zd := Lib.hid (show Rd b wd' _ Ac _ from (Zc.out.drew).below hbd)
        have Ud := Lib.hid hrdd
        clear hrdd hbd htd HTc dc1 dc2 dc3 HLc hblc Xc Yc Zc hcd
        go_wp2_with fail
        refine (was15 tb _).mono ?_
        rintro e w' ⟨rfl, rfl⟩
        go_wp2_with fail
        refine (same17 b b _ _ Aa Ab _ ca cb _ Xd.out Yd.out (fun _ _ => rfl)).mono ?_
        rintro e w' ⟨rfl, rfl⟩
        go_wp2_with fail
        refine (was15 td _).mono ?_
        rintro e w' ⟨rfl, rfl⟩
        go_wp2_with fail
        refine (same17 b b _ _ Ac Ad _ cc cd _ Zd.out Ud.out (fun _ _ => rfl)).mono ?_
        rintro e w' ⟨rfl, rfl⟩
        go_wp2_with fail
        exact ⟨⟨k + 1, hlt1, hlt2, by go_num, HLd.out⟩, by simp [intOf]; omega⟩
      · go_wp2_with fail
        go_ret
        exact ⟨rfl, HL.out.2.1⟩
    · go_wp2_with fail
      go_ret
      exact ⟨rfl, HL.out.2.1⟩

set_option maxRecDepth 100000 in
theorem lifted (os : Os) (started : os.Started) (H : Type) (enc : TypeId × Value → H) :
    ReturnsInHanded {} Try.checked os 4 .any (Rows.regionTellsSpec.pre6 enc Try.prog Try.f4 Rows.regionTellsRow.domain false) (Rows.regionTellsSpec.post enc Try.prog Try.f4 false true false false) := by
  refine returnsInHanded_of_change (C := Try.checked) own started (by kernel_rfl) Try.func4
    (ChangeSpec.witness6 (enc := enc) (C := Try.checked) false ⟨#[], #[.bool false, .slice none 0 0, .slice none 0 0], []⟩ 8 (by kernel_rfl) (by kernel_rfl) (by kernel_rfl) (by kernel_rfl)) ?_
  intro W base args ds gs before hval0 hW hcnd _
  have hval : ∀ (j : Nat) t v, Try.f4.params[j]? = some t → args[j]? = some v → Value.okWide Try.prog W .any base t v := hval0
  have hW' := hW
  obtain ⟨p, q, hA0, hV, rfl, hfz, hnd⟩ := hW
  have hA : DataW.TrodAll enc Try.prog W 0 (fun _ => true) true Try.f4.params.toList args.toList ds p := hA0
  rw [Try.params4] at hA hval
  obtain ⟨v0, vs0, d0, ds0, p0, q0, hargs, rfl, rfl, h0, r0⟩ := trodAll_cons hA
  obtain ⟨v1, vs1, d1, ds1, p1, q1, rfl, rfl, rfl, h1, r1⟩ := trodAll_cons r0
  obtain ⟨v2, vs2, d2, ds2, p2, q2, rfl, rfl, rfl, h2, r2⟩ := trodAll_cons r1
  obtain ⟨rfl, rfl, rfl⟩ := trodAll_nil r2
  obtain rfl : args = #[v0, v1, v2] := by cases args; simp_all
  obtain ⟨rfl, rfl⟩ := trodVars_none hV
  obtain ⟨a0, rfl, rfl, rfl⟩ := open_bool Try.underlying4 (hval 0 4 v0 rfl rfl) h0
  obtain ⟨a1, len1, cap1, rfl⟩ := okWide_slice Try.underlying23 (hval 1 23 v1 rfl rfl)
  have k1 := h1
  have lt1 : ∀ x ∈ p1, x.block < W.heap.size := by obtain ⟨m, hm⟩ := k1; exact DataW.trod_lt m _ _ _ hm
  obtain ⟨z1, w1⟩ : ∃ zs, IsRow .i64 W a1 len1 cap1 zs := by
    obtain ⟨fuel, hf⟩ := h1
    rcases open_ints Try.underlying23 Try.underlying3 (by kernel_rfl) hf with ⟨hcs, _⟩ | ⟨x, l, c, zs, hcs, _, hl, hm, hz, _, hcell, hwz⟩
    · simp [Value.cells] at hcs
      obtain ⟨rfl, rfl, rfl⟩ := hcs
      exact ⟨[], .inl ⟨rfl, rfl, rfl, rfl⟩⟩
    · simp [Value.cells] at hcs
      obtain ⟨rfl, rfl, rfl⟩ := hcs
      exact ⟨zs, .inr ⟨_, rfl, hl, hm, by simpa using hz, hcell, hwz⟩⟩
  obtain ⟨a2, len2, cap2, rfl⟩ := okWide_slice Try.underlying42 (hval 2 42 v2 rfl rfl)
  have k2 := h2
  have lt2 : ∀ x ∈ p2, x.block < W.heap.size := by obtain ⟨m, hm⟩ := k2; exact DataW.trod_lt m _ _ _ hm
  have w2 : IsRows W a2 len2 cap2 := by
    obtain ⟨fuel, hf⟩ := h2
    rcases Deep.open_int_rows Try.underlying42 Try.underlying22 Try.underlying5 (by kernel_rfl) (by kernel_rfl) hf with ⟨hcs, _⟩ | ⟨a, len', cap', A, L, C, Z, hcs, _, hl, hm, _, hrows⟩
    · simp [Value.cells] at hcs
      obtain ⟨rfl, rfl, rfl⟩ := hcs
      exact isRows_nil W
    · simp [Value.cells] at hcs
      obtain ⟨rfl, rfl, rfl⟩ := hcs
      exact isRows_of hl (fun r hr => by
        obtain ⟨h1, h2, _, h4, h5, h6, h7⟩ := hrows r hr
        exact ⟨h1, h2, h4, h5, h6, fun a' ha' => (h7 a' ha').2⟩)
  clear hA0 hval0
  refine (walk a0 a1 len1 cap1 z1 a2 len2 cap2 W w1 w2).mono fun e W' ⟨he, bel⟩ => ?_
  subst he
  exact ⟨_, rfl, _, _, _, [], _, [], hW', trodAll_mk1 (shut_bool Try.underlying4 _), (trodAll_cons_mk (shut_bool Try.underlying4 _) (trodAll_cons_mk (Below.trod laidOut (by kernel_rfl) (of_decide_eq_true (by kernel_rfl)) k1 bel lt1) (trodAll_cons_mk (Below.trod laidOut (by kernel_rfl) (of_decide_eq_true (by kernel_rfl)) k2 bel lt2) trodAll_mk0))), rfl, bel.frame _, fun h => by cases h⟩

theorem over : Rows.regionTellsRow.holds Try.pinned (OpenSpec.ofChange Rows.regionTellsSpec) :=
  OpenClaim.holds_of_wide 4 Try.f4 rfl rfl rfl rfl rfl rfl rfl ⟨rfl, rfl, rfl, rfl, rfl⟩ rfl rfl rfl rfl rfl (by kernel_rfl) Try.func4 (by kernel_rfl)
    (of_decide_eq_true (by kernel_rfl)) (by unfold Func.isWrapper; first | (rw [if_pos (by decide +kernel)]; kernel_rfl) | (rw [if_neg (by decide +kernel)]; exact ⟨rfl, rfl⟩))
    (fun os started H enc _ => lifted os started H enc)

theorem proved : Rows.RegionTellsSaid := over
end Go.Proofs.Ytjpjgkagebckpaa.regionTells
