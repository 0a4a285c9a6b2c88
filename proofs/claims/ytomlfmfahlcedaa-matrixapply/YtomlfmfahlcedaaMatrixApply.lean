/- MatrixApply: Mul and Apply go together, and Apply of a sum is the sum -/
import Derived.Test.YtomlfmfahlcedaaRows
import Derived.Test.YtomlfmfahlcedaaMtp
import Derived.Test.YtomlfmfahlcedaaMto
import Derived.Test.YtomlfmfahlcedaaMtq
import Derived.Deep.RegionHeld3
import Derived.WalkKit
import Derived.ProofKit
import Derived.OpenShut
import Derived.ShutString
import Derived.ChangeOld
import Derived.Below
namespace Go.Proofs.Ytomlfmfahlcedaa.matrixApply
open Go.ChangeShapes Go.WideShapes Go.ChangeAt Go.RowKit
set_option linter.unusedVariables false

theorem own : ownKnob Try.prog.godebug = none := by kernel_rfl
theorem laidOut : laidOutB Try.prog = true := by kernel_rfl

theorem u8_le (f : Nat → Nat) (hf : ∀ j, f j < 256) (n : Nat) : allIn (M.ord 285) (fun i => ((f i : Nat) : Int)) n := fun j _ => by
  have := hf j
  rw [ord285]
  dsimp only
  omega

theorem i64_small (n : Nat) (h : n < 256) : IntKind.i64.wrap (n : Int) = n := by rw [IntKind.wrap_i64]; omega
/-- in the law's first loop -/
def SplitAt (h : Nat) (f : Nat → Nat) (w2 : World) (s12 s13 s14 s15 : Value) (wr : World) : Prop :=
  ∃ k : Nat, k ≤ h ∧ s15 = .int .i64 k ∧ Tri w2 (i64s (fun i => (f i : Nat))) (i64s (fun i => (f (h + i) : Nat))) (i64s (fun i => (f i ^^^ f (h + i) : Nat))) k s12 s13 s14 wr

set_option maxRecDepth 100000 in
set_option maxHeartbeats 8000000 in
theorem walk (a0 : Option Addr) (len0 cap0 : Nat) (a1 : Option Addr) (len1 cap1 : Nat) (a2 : Option Addr) (len2 cap2 : Nat) (w : World) (w0 : IsMat w a0 len0 cap0) (w1 : IsMat w a1 len1 cap1) (w2 : IsBytes w a2 len2 cap2) :
    Calls Try.prog 7 #[.slice a0 len0 cap0, .slice a1 len1 cap1, .slice a2 len2 cap2] w fun e w' => e = .returned (.bool true) ∧ Below w.heap.size w w' := by
  obtain ⟨j0, hj, hy0, hy1, hy2⟩ := info_parts infoI
  obtain ⟨F, La, _, _, hma⟩ := w0
  obtain ⟨G, Lb, _, _, hmb⟩ := w1
  obtain ⟨f, hf, _, hmf⟩ := w2
  have HMA := Lib.hid hma
  have HMB := Lib.hid hmb
  have HMF := Lib.hid hmf
  have HF := Lib.hid hf
  clear hma hmb hmf hf
  go_enter Try.func7, Try.ntmps7
  go_wp2_with fail
  refine (awakeM _).mono ?_
  rintro e w1 ⟨rfl, hb1⟩
  have H1 := Lib.hid hb1
  clear hb1
  go_wp2_with fail
  refine (few10 w.heap.size F La a0 len0 cap0 _ ((HMA.out _ (Nat.le_refl _)).below H1.out)).mono ?_
  rintro e w' ⟨t, rfl, ht, rfl⟩
  cases t
  · clear ht
    go_wp2_with fail
    go_ret
    exact ⟨rfl, H1.out⟩
  obtain ⟨hn0, hLs⟩ := ht rfl
  clear ht hLs
  go_wp2_with fail
  refine (few10 w.heap.size G Lb a1 len1 cap1 _ ((HMB.out _ (Nat.le_refl _)).below H1.out)).mono ?_
  rintro e w' ⟨t, rfl, ht, rfl⟩
  cases t
  · clear ht
    go_wp2_with fail
    go_ret
    exact ⟨rfl, H1.out⟩
  obtain ⟨hn1, hLs⟩ := ht rfl
  clear ht hLs
  by_cases hl20 : 20 < len2
  · go_wp2_with fail
    go_ret
    exact ⟨rfl, H1.out⟩
  have hd20 : decide ((20 : Int) < ((len2 : Nat) : Int)) = false := by simp; omega
  have hm20 : len2 ≤ 20 := by omega
  clear hl20
  by_cases hpar : len2 % 2 = 0
  case neg =>
    have hm : ((len2 : Nat) : Int) % 2 = 1 := by omega
    clear hpar
    go_wp2_with fail
    go_ret
    exact ⟨rfl, H1.out⟩
  have hm : ((len2 : Nat) : Int) % 2 = 0 := by omega
  obtain ⟨h, hh⟩ : ∃ h : Nat, len2 = 2 * h := ⟨len2 / 2, by omega⟩
  have hq : ((len2 : Nat) : Int) / 2 = (h : Int) := by omega
  have HH := Lib.hid hh
  have hh20 : h ≤ 10 := by omega
  clear hpar hh
  go_wp2_with fail
  refine (mfield_no _).mono ?_
  rintro e w2 ⟨b, rfl, hFl, hnb, hb3⟩
  have hL := Live.start H1.out hFl hnb hb3
  have HL := Lib.hid hL
  have hlow : w.heap.size ≤ b := hL.2.2
  have hkd := good285.kind
  have KEEP := Lib.hid (show ∀ w', Live 285 b 8 w w' → Mx b w' F La a0 len0 ∧ Mx b w' G Lb a1 len1 ∧ Rd b w' (u8s f) a2 len2 from fun w' h =>
    ⟨(HMA.out b hlow).below h.2.1, (HMB.out b hlow).below h.2.1, (HMF.out b hlow).below h.2.1⟩)
  clear hFl hnb hb3 H1 hL HMA HMB HMF
  go_wp2_with fail
  go_loopw [12, 13, 14, 15] (fun s12 s13 s14 s15 wr => SplitAt h f w2 s12 s13 s14 s15 wr) (fun _ _ _ s15 _ => h - (intOf s15).toNat)
  case atStart => exact ⟨0, Nat.zero_le _, rfl, Tri.start _ _ _ _⟩
  case round =>
    obtain ⟨k, hk, rfl, htri⟩ := hrel
    have HT := Lib.hid htri
    have hsz := htri.below.size
    clear htri
    by_cases hlt : k < h
    · have HK1 := Lib.hid (show ∀ w', Below w2.heap.size w2 w' → ∃ ad : Addr, a2 = some ad ∧ w'.cell? (ad.add k) = some (.int .u8 (f k : Nat)) ∧ w'.cell? (ad.add (h + k)) = some (.int .u8 (f (h + k) : Nat)) from fun w' hb' => by
        have hr := (KEEP.out _ (HL.out.below hb')).2.2
        have hh := HH.out
        obtain ⟨ad, e1, d1⟩ := hr.at_ (show k < len2 by omega)
        obtain ⟨ad', e2, d2⟩ := hr.at_ (show h + k < len2 by omega)
        rw [e1] at e2
        injection e2 with e2
        subst e2
        exact ⟨ad, e1, d1, d2⟩)
      obtain ⟨ad, rfl, d1, d2⟩ := HK1.out wr HT.out.below
      have HK := Lib.hid (show ∀ w', Below w2.heap.size w2 w' → w'.cell? (ad.add k) = some (.int .u8 (f k : Nat)) ∧ w'.cell? (ad.add (h + k)) = some (.int .u8 (f (h + k) : Nat)) from fun w' hb' => by
        obtain ⟨ad', e, h1, h2⟩ := HK1.out w' hb'
        injection e with e
        subst e
        exact ⟨h1, h2⟩)
      have hx := HF.out k
      have hy := HF.out (h + k)
      clear HK1
      obtain ⟨z, hz⟩ : ∃ z : Nat, h + k = z := ⟨_, rfl⟩
      rw [hz] at d2 HK hy
      have hzI : (h : Int) + (k : Int) = (z : Int) := by omega
      have hzl : (z : Int) < ((len2 : Nat) : Int) := by have := HH.out; omega
      have hkl : (k : Int) < ((len2 : Nat) : Int) := by have := HH.out; omega
      have HV1 := Lib.hid (show i64s (fun i => ((f i : Nat) : Int)) k = .int .i64 (f k : Nat) from rfl)
      have HV2 := Lib.hid (show i64s (fun i => ((f (h + i) : Nat) : Int)) k = .int .i64 (f z : Nat) by simp only [i64s]; rw [hz])
      have HV3 := Lib.hid (show i64s (fun i => ((f i ^^^ f (h + i) : Nat) : Int)) k = .int .i64 ((f k ^^^ f z : Nat) : Int) by simp only [i64s]; rw [hz])
      have HX := Lib.hid (u8_xor_nat (f k) (f z) hx hy)
      have hxz : f k ^^^ f z < 256 := Nat.xor_lt_two_pow (n := 8) hx hy
      obtain ⟨u, hu⟩ : ∃ u, f k = u := ⟨_, rfl⟩
      obtain ⟨v, hv⟩ : ∃ v, f z = v := ⟨_, rfl⟩
      rw [hu] at d1 HK hx HV1 HV3 HX hxz
      rw [hv] at d2 HK hy HV2 HV3 HX hxz
      clear hu hv hz
      have hk20 : k ≤ 20 := by omega
      go_wp2_with (at_builtin; refine wpList_append_lies _ rfl (.tmp 63) (.tmp 69) TIs rfl w2.heap.size TI j0 (.int .i64 0) 1 8 underI hj hy0 hy1 hy2 rfl (by decide) _ _ _ rfl (HT.out.x.alloc _) ⟨wr.heap.size, 0, none⟩ 1 1 [i64s (fun i => ((f i : Nat) : Int)) k] rfl rfl (news_one HV1.out.symm) (one_i64 _) (by omega) (by unfold maxLen; omega) (by omega) (by simp; omega) _ rfl ?_)
      intro g1 p1 w3 hown1 hgr1 hg1 _
      have Y3 := Lib.hid (app_other HT.out.y HT.out.xy.symm hgr1 hg1 (v' := .slice (some ⟨g1, 0, none⟩) (k + 1) p1) rfl)
      have Z3 := Lib.hid (app_other HT.out.z HT.out.xz.symm hgr1 hg1 (v' := .slice (some ⟨g1, 0, none⟩) (k + 1) p1) rfl)
      have hB3 : Below w2.heap.size w2 w3 := (HT.out.below.alloc hsz _).grown hgr1 (by simp; omega) (fun q hq => (HT.out.x.lt q hq).1)
      have X3 := Lib.hid hown1
      have YZ := Lib.hid HT.out.yz
      obtain ⟨e1, e2⟩ := HK.out w3 hB3
      have HB3 := Lib.hid hB3
      have hsz3 := hB3.size
      clear hown1 hgr1 hg1 hB3 HT
      go_wp2_with (at_builtin; refine wpList_append_lies _ rfl (.tmp 71) (.tmp 79) TIs rfl w2.heap.size TI j0 (.int .i64 0) 1 8 underI hj hy0 hy1 hy2 rfl (by decide) _ _ _ rfl (Y3.out.1.alloc _) ⟨w3.heap.size, 0, none⟩ 1 1 [i64s (fun i => ((f (h + i) : Nat) : Int)) k] rfl rfl (news_one HV2.out.symm) (one_i64 _) (by omega) (by unfold maxLen; omega) (by omega) (by simp; omega) _ rfl ?_)
      intro g2 p2 w4 hown2 hgr2 hg2 _
      have X4 := Lib.hid (app_other X3.out Y3.out.2.symm hgr2 hg2 (v' := .slice (some ⟨g2, 0, none⟩) (k + 1) p2) rfl)
      have Z4 := Lib.hid (app_other Z3.out.1 YZ.out.symm hgr2 hg2 (v' := .slice (some ⟨g2, 0, none⟩) (k + 1) p2) rfl)
      have hB4 : Below w2.heap.size w2 w4 := (HB3.out.alloc hsz3 _).grown hgr2 (by simp; omega) (fun q hq => (Y3.out.1.lt q hq).1)
      have Y4 := Lib.hid hown2
      have XZ := Lib.hid Z3.out.2.symm
      obtain ⟨i1, i2⟩ := HK.out w4 hB4
      have HB4 := Lib.hid hB4
      have hsz4 := hB4.size
      clear hown2 hgr2 hg2 hB4 X3 Y3 Z3 HB3 d1 d2 e1 e2
      have hz0 : (0 : Int) ≤ (z : Int) := by omega
      have hwz : IntKind.i64.wrap (z : Int) = (z : Int) := by rw [IntKind.wrap_i64]; have := HH.out; omega
      have HN := Lib.hid (show Value.int .i64 (IntKind.i64.wrap (bits .xor .u8 (u : Nat) (v : Nat))) = i64s (fun i => ((f i ^^^ f (h + i) : Nat) : Int)) k by
        rw [HV3.out, HX.out, i64_small _ hxz])
      go_wp2_with fail
      go_region_held3 (fun w' => w'.cell? (ad.add k) = some (.int .u8 (u : Nat)) ∧ w'.cell? (ad.add z) = some (.int .u8 (v : Nat)))
        (first | exact ⟨i1, i2⟩ | exact HK.out _ (HB4.out.drew.alloc hsz4 _) | exact HK.out _ ((HB4.out.drew.alloc hsz4 _).grown hgx (by simp; omega) (fun q hq => (Z4.out.1.lt q hq).1)) | assumption)
        (first
          | (refine step_append_lies _ rfl (.tmp 81) (.tmp 94) TIs rfl w2.heap.size TI j0 (.int .i64 0) 1 8 underI hj hy0 hy1 hy2 rfl (by decide) _ k _ (by simp [Act.eval]) (Z4.out.1.drew.alloc _) ⟨w4.heap.size, 0, none⟩ 1 1 [i64s (fun i => ((f i ^^^ f (h + i) : Nat) : Int)) k] (by simp [Act.eval]) rfl (news_one HN.out) (one_i64 _) (by omega) (by unfold maxLen; omega) (by omega) (by simp; omega) _ rfl ?_; intro g3 p3 w5 hownx hgx hatx hltx))
      have Z5 := Lib.hid hownx
      have hatx' := hatx.imp id (fun e => e.trans (show _ = w4.drew.heap.size + 1 by simp))
      have X5 := Lib.hid (app_other X4.out.1.drew XZ.out hgx hatx' (v' := .slice (some ⟨g3, 0, none⟩) (k + 1) p3) rfl)
      have Y5 := Lib.hid (app_other Y4.out.drew Z4.out.2.symm hgx hatx' (v' := .slice (some ⟨g3, 0, none⟩) (k + 1) p3) rfl)
      have HB5 := Lib.hid ((HB4.out.drew.alloc hsz4 _).grown hgx (by simp; omega) (fun q hq => (Z4.out.1.lt q hq).1))
      have XY := Lib.hid X4.out.2
      clear hownx hgx hatx hatx' X4 Y4 Z4 HB4 HK i1 i2
      go_wp2_with fail
      exact ⟨⟨k + 1, hlt, by go_num, ⟨HB5.out, by rw [range_snoc]; exact X5.out.1, by rw [range_snoc]; exact Y5.out.1, by rw [range_snoc]; exact Z5.out, XY.out, X5.out.2, Y5.out.2⟩⟩, by simp [intOf]; omega⟩
    · obtain rfl : k = h := by omega
      obtain ⟨AX, cx, rfl, _, hrx⟩ := Rd.of_own (b := b) HT.out.x HL.out.1.lt
      obtain ⟨AY, cy, rfl, _, hry⟩ := Rd.of_own (b := b) HT.out.y HL.out.1.lt
      obtain ⟨AS, cs, rfl, _, hrs⟩ := Rd.of_own (b := b) HT.out.z HL.out.1.lt
      have HL2 := Lib.hid (HL.out.below HT.out.below)
      have hax := u8_le f HF.out k
      have hay := u8_le (fun i => f (k + i)) (fun j => HF.out _) k
      have has := u8_le (fun i => f i ^^^ f (k + i)) (fun j => Nat.xor_lt_two_pow (n := 8) (HF.out _) (HF.out _)) k
      have hsum : ∀ i, ((f i ^^^ f (k + i) : Nat) : Int) = (((((f i : Nat) : Int)).toNat ^^^ (((f (k + i) : Nat) : Int)).toNat : Nat) : Int) := fun i => by simp
      obtain ⟨lx, hlx⟩ : ∃ l : Nat → Int, (fun i => ((f i : Nat) : Int)) = l := ⟨_, rfl⟩
      obtain ⟨ly, hly⟩ : ∃ l : Nat → Int, (fun i => ((f (k + i) : Nat) : Int)) = l := ⟨_, rfl⟩
      obtain ⟨ls, hls⟩ : ∃ l : Nat → Int, (fun i => ((f i ^^^ f (k + i) : Nat) : Int)) = l := ⟨_, rfl⟩
      have HSUM := Lib.hid (show ls = fun i => (((lx i).toNat ^^^ (ly i).toNat : Nat) : Int) by rw [← hls, ← hlx, ← hly]; funext i; exact hsum i)
      rw [hlx] at hrx hax
      rw [hly] at hry hay
      rw [hls] at hrs has
      have RX := Lib.hid hrx
      have RY := Lib.hid hry
      have RS := Lib.hid hrs
      have HAX := Lib.hid hax
      have HAY := Lib.hid hay
      have HAS := Lib.hid has
      clear hrx hry hrs hax hay has hsum hlx hly hls HT hsz
      go_wp2_with fail
      refine (mmul_any 285 b 8 F G La Lb a0 a1 len0 len1 cap0 cap1 _ HL2.out.1 (KEEP.out _ HL2.out).1 (KEEP.out _ HL2.out).2.1).mono ?_
      rintro e w3 ⟨t3, A3, c3, rfl, ht3, hx3, hf3, htr3⟩
      have HL3 := Lib.hid (HL2.out.next hf3 htr3)
      have RX3 := Lib.hid (RX.out.turned htr3)
      have RY3 := Lib.hid (RY.out.turned htr3)
      have RS3 := Lib.hid (RS.out.turned htr3)
      have P3 := Lib.hid hx3
      have HT3 := Lib.hid ht3
      clear hx3 hf3 htr3 ht3 HL2 RX RY RS
      go_wp2_with fail
      refine (apply22 285 b 8 G Lb a1 AX len1 k cap1 cx lx _ HL3.out.1 (KEEP.out _ HL3.out).2.1 RX3.out).mono ?_
      rintro e w4 ⟨t4, A4, c4, rfl, ht4, hx4, hf4, htr4⟩
      have HL4 := Lib.hid (HL3.out.next hf4 htr4)
      have RX4 := Lib.hid (RX3.out.turned htr4)
      have RY4 := Lib.hid (RY3.out.turned htr4)
      have RS4 := Lib.hid (RS3.out.turned htr4)
      have P4 := Lib.hid (P3.out.turned htr4)
      have M4 := Lib.hid hx4
      have HT4 := Lib.hid ht4
      clear hx4 hf4 htr4 ht4 HL3 RX3 RY3 RS3 P3
      cases t3
      · rw [show errOf false = 1 from rfl]
        clear P4 M4
        go_wp2_with fail
        go_ret
        exact ⟨rfl, HL4.out.2.1⟩
      cases t4
      · rw [show errOf false = 1 from rfl, show errOf true = 0 from rfl]
        clear P4 M4
        go_wp2_with fail
        go_ret
        exact ⟨rfl, HL4.out.2.1⟩
      rw [show errOf true = 0 from rfl]
      have P4 := Lib.hid (show Mx b w4 (mulF 285 F G len1) (fun _ => Lb 0) A3 len0 from P4.out)
      have M4 := Lib.hid (show Rd b w4 (i64s (fun r => (dotN 285 (G r) lx k : Nat))) A4 len1 from M4.out)
      simp only [cond]
      have h3 := HT3.out.1 rfl
      have h4 := HT4.out.1 rfl
      have HPA := Lib.hid (show mayP (M.ord 285) len0 La F ∧ La 0 = len1 ∧ allIn (M.ord 285) (fun r => ((dotN 285 (G r) lx k : Nat) : Int)) len1 from ⟨h3.1, h3.2.2, fun j _ => dot_in good285 _ _ _⟩)
      have HPB := Lib.hid (show mayP (M.ord 285) len0 (fun _ => Lb 0) (mulF 285 F G len1) ∧ Lb 0 = k ∧ allIn (M.ord 285) lx k from ⟨mulF_may good285 F G len1 h3.1.1 h3.2.1.2.1, h4.2.1, HAX.out⟩)
      have HPC := Lib.hid (show mayP (M.ord 285) len1 Lb G ∧ Lb 0 = k from ⟨h4.1, h4.2.1⟩)
      clear h3 h4
      go_wp2_with fail
      refine (apply22 285 b 8 F La a0 A4 len0 len1 cap0 c4 _ _ HL4.out.1 (KEEP.out _ HL4.out).1 M4.out).mono ?_
      rintro e w5 ⟨t5, A5, c5, rfl, ht5, hx5, hf5, htr5⟩
      obtain rfl : t5 = true := ht5.2 HPA.out
      rw [show errOf true = 0 from rfl]
      simp only [cond] at hx5 ⊢
      have HL5 := Lib.hid (HL4.out.next hf5 htr5)
      have RX5 := Lib.hid (RX4.out.turned htr5)
      have RY5 := Lib.hid (RY4.out.turned htr5)
      have RS5 := Lib.hid (RS4.out.turned htr5)
      have P5 := Lib.hid (P4.out.turned htr5)
      have M5 := Lib.hid (M4.out.turned htr5)
      have N5 := Lib.hid hx5
      clear hx5 hf5 htr5 ht5 HL4 RX4 RY4 RS4 P4 M4
      go_wp2_with fail
      refine (apply22 285 b 8 _ _ A3 AX len0 k c3 cx lx _ HL5.out.1 P5.out RX5.out).mono ?_
      rintro e w6 ⟨t6, A6, c6, rfl, ht6, hx6, hf6, htr6⟩
      obtain rfl : t6 = true := ht6.2 HPB.out
      rw [show errOf true = 0 from rfl]
      simp only [cond] at hx6 ⊢
      have HL6 := Lib.hid (HL5.out.next hf6 htr6)
      have RY6 := Lib.hid (RY5.out.turned htr6)
      have RS6 := Lib.hid (RS5.out.turned htr6)
      have M6 := Lib.hid (M5.out.turned htr6)
      have N6 := Lib.hid (N5.out.turned htr6)
      have O6 := Lib.hid hx6
      clear hx6 hf6 htr6 ht6 HL5 RX5 RY5 RS5 P5 M5 N5
      go_wp2_with fail
      refine (apply22 285 b 8 G Lb a1 AY len1 k cap1 cy ly _ HL6.out.1 (KEEP.out _ HL6.out).2.1 RY6.out).mono ?_
      rintro e w7 ⟨t7, A7, c7, rfl, ht7, hx7, hf7, htr7⟩
      obtain rfl : t7 = true := ht7.2 ⟨HPC.out.1, HPC.out.2, HAY.out⟩
      rw [show errOf true = 0 from rfl]
      simp only [cond] at hx7 ⊢
      have HL7 := Lib.hid (HL6.out.next hf7 htr7)
      have RS7 := Lib.hid (RS6.out.turned htr7)
      have M7 := Lib.hid (M6.out.turned htr7)
      have N7 := Lib.hid (N6.out.turned htr7)
      have O7 := Lib.hid (O6.out.turned htr7)
      have Q7 := Lib.hid hx7
      clear hx7 hf7 htr7 ht7 HL6 RY6 RS6 M6 N6 O6
      go_wp2_with fail
      refine (apply22 285 b 8 G Lb a1 AS len1 k cap1 cs ls _ HL7.out.1 (KEEP.out _ HL7.out).2.1 RS7.out).mono ?_
      rintro e w8 ⟨t8, A8, c8, rfl, ht8, hx8, hf8, htr8⟩
      obtain rfl : t8 = true := ht8.2 ⟨HPC.out.1, HPC.out.2, HAS.out⟩
      rw [show errOf true = 0 from rfl]
      simp only [cond] at hx8 ⊢
      have HL8 := Lib.hid (HL7.out.next hf8 htr8)
      have M8 := Lib.hid (M7.out.turned htr8)
      have N8 := Lib.hid (N7.out.turned htr8)
      have O8 := Lib.hid (O7.out.turned htr8)
      have Q8 := Lib.hid (Q7.out.turned htr8)
      have S8 := Lib.hid hx8
      have HE := Lib.hid (show ∀ r, r < len0 → ((dotN 285 (F r) (fun i => ((dotN 285 (G i) lx k : Nat) : Int)) len1 : Nat) : Int) = ((dotN 285 (mulF 285 F G len1 r) lx k : Nat) : Int) from fun r hr => by
        have h1 := HPA.out.1
        have h2 := HPC.out
        exact congrArg _ (dot_assoc good285 (f := F r) (G := G) (h := lx) (by have := h1.2.2 r hr; rw [this.1, HPA.out.2.1] at this; exact this.2) (fun i hi => by have := h2.1.2.2 i hi; rw [this.1, h2.2] at this; exact this.2) HAX.out).symm)
      have HS := Lib.hid (show ∀ r, r < len1 → dotN 285 (G r) ls k = dotN 285 (G r) lx k ^^^ dotN 285 (G r) ly k from fun r hr => by
        have h2 := HPC.out
        rw [HSUM.out]
        exact dot_xor good285 (by have := h2.1.2.2 r hr; rw [this.1, h2.2] at this; exact this.2) HAX.out HAY.out)
      clear hx8 hf8 htr8 ht8 HL7 RS7 M7 N7 O7 Q7 HSUM
      go_wp2_with fail
      refine (ints16 b b _ _ A5 A6 len0 c5 c6 (by omega) _ N8.out O8.out HE.out).mono ?_
      rintro e w9 ⟨rfl, hb9⟩
      have HL9 := Lib.hid (HL8.out.below hb9)
      have M9 := Lib.hid (M8.out.below hb9)
      have Q9 := Lib.hid (Q8.out.below hb9)
      have S9 := Lib.hid (S8.out.below hb9)
      clear hb9 HL8 M8 N8 O8 Q8 S8 HE
      go_wp2_with fail
      go_loopw [28] (fun s28 wr => ∃ r : Nat, r ≤ len1 ∧ s28 = .int .i64 r ∧ Hid (Below w9.heap.size w9 wr)) (fun s28 _ => len1 - (intOf s28).toNat)
      case atStart => exact ⟨0, Nat.zero_le _, rfl, Lib.hid (Below.refl _ _)⟩
      case round =>
        obtain ⟨r, hr, rfl, hbl⟩ := hrel
        by_cases hlr : r < len1
        · obtain ⟨ad, rfl, d1⟩ := (S9.out.below hbl.out).at_ hlr
          obtain ⟨ad', rfl, d2⟩ := (M9.out.below hbl.out).at_ hlr
          obtain ⟨ad'', rfl, d3⟩ := (Q9.out.below hbl.out).at_ hlr
          have hs := HS.out r hlr
          have hx := dot_in good285 (G r) lx k
          have hy := dot_in good285 (G r) ly k
          rw [ord285] at hx hy
          simp only [i64s] at d1 d2 d3
          rw [hs] at d1
          generalize dotN 285 (G r) lx k = x at *
          generalize dotN 285 (G r) ly k = y at *
          have HX := Lib.hid (i64_xor_nat x y (by omega) (by omega))
          clear hs
          go_wp2_with fail
          go_quiet (fail)
          have HB := Lib.hid (below_tr hbl.out (below_drewN' wr nq))
          have hcmp : (((x ^^^ y : Nat) : Int) != bits .xor .i64 (x : Nat) (y : Nat)) = false := by rw [HX.out]; simp
          clear HX
          generalize wr.drewN nq = w10 at *
          go_wp2_with fail
          exact ⟨⟨r + 1, hlr, by go_num, HB⟩, by simp [intOf]; omega⟩
        · obtain rfl : r = len1 := by omega
          have HB := Lib.hid (below_tr HL9.out.2.1 hbl.out)
          go_wp2_with fail
          go_ret
          exact ⟨rfl, HB.out⟩

set_option maxRecDepth 100000 in
theorem lifted (os : Os) (started : os.Started) (H : Type) (enc : TypeId × Value → H) :
    ReturnsInHanded {} Try.checked os 7 .any (Rows.matrixApplySpec.pre6 enc Try.prog Try.f7 Rows.matrixApplyRow.domain false) (Rows.matrixApplySpec.post enc Try.prog Try.f7 false true false false) := by
  refine returnsInHanded_of_change (C := Try.checked) own started (by kernel_rfl) Try.func7
    (ChangeSpec.witness6 (enc := enc) (C := Try.checked) false ⟨#[], #[.slice none 0 0, .slice none 0 0, .slice none 0 0], []⟩ 8 (by kernel_rfl) (by kernel_rfl) (by kernel_rfl) (by kernel_rfl)) ?_
  intro W base args ds gs before hval0 hW hcnd _
  have hval : ∀ (j : Nat) t v, Try.f7.params[j]? = some t → args[j]? = some v → Value.okWide Try.prog W .any base t v := hval0
  have hW' := hW
  obtain ⟨p, q, hA0, hV, rfl, hfz, hnd⟩ := hW
  have hA : DataW.TrodAll enc Try.prog W 0 (fun _ => true) true Try.f7.params.toList args.toList ds p := hA0
  rw [Try.params7] at hA hval
  obtain ⟨v0, vs0, d0, ds0, p0, q0, hargs, rfl, rfl, h0, r0⟩ := trodAll_cons hA
  obtain ⟨v1, vs1, d1, ds1, p1, q1, rfl, rfl, rfl, h1, r1⟩ := trodAll_cons r0
  obtain ⟨v2, vs2, d2, ds2, p2, q2, rfl, rfl, rfl, h2, r2⟩ := trodAll_cons r1
  obtain ⟨rfl, rfl, rfl⟩ := trodAll_nil r2
  obtain rfl : args = #[v0, v1, v2] := by cases args; simp_all
  obtain ⟨rfl, rfl⟩ := trodVars_none hV
  obtain ⟨a0, len0, cap0, rfl⟩ := okWide_slice Try.underlying22 (hval 0 22 v0 rfl rfl)
  have k0 := h0
  have lt0 : ∀ x ∈ p0, x.block < W.heap.size := by obtain ⟨m, hm⟩ := k0; exact DataW.trod_lt m _ _ _ hm
  have w0 : IsMat W a0 len0 cap0 := by
    obtain ⟨fuel, hf⟩ := h0
    exact mat_in hf
  obtain ⟨a1, len1, cap1, rfl⟩ := okWide_slice Try.underlying22 (hval 1 22 v1 rfl rfl)
  have k1 := h1
  have lt1 : ∀ x ∈ p1, x.block < W.heap.size := by obtain ⟨m, hm⟩ := k1; exact DataW.trod_lt m _ _ _ hm
  have w1 : IsMat W a1 len1 cap1 := by
    obtain ⟨fuel, hf⟩ := h1
    exact mat_in hf
  obtain ⟨a2, len2, cap2, rfl⟩ := okWide_slice Try.underlying53 (hval 2 53 v2 rfl rfl)
  have k2 := h2
  have lt2 : ∀ x ∈ p2, x.block < W.heap.size := by obtain ⟨m, hm⟩ := k2; exact DataW.trod_lt m _ _ _ hm
  have w2 : IsBytes W a2 len2 cap2 := by
    obtain ⟨fuel, hf⟩ := h2
    exact bytes_in hf
  clear hA0 hval0
  refine (walk a0 len0 cap0 a1 len1 cap1 a2 len2 cap2 W w0 w1 w2).mono fun e W' ⟨he, bel⟩ => ?_
  subst he
  exact ⟨_, rfl, _, _, _, [], _, [], hW', trodAll_mk1 (shut_bool Try.underlying4 _), (trodAll_cons_mk (Below.trod laidOut (by kernel_rfl) (of_decide_eq_true (by kernel_rfl)) k0 bel lt0) (trodAll_cons_mk (Below.trod laidOut (by kernel_rfl) (of_decide_eq_true (by kernel_rfl)) k1 bel lt1) (trodAll_cons_mk (Below.trod laidOut (by kernel_rfl) (of_decide_eq_true (by kernel_rfl)) k2 bel lt2) trodAll_mk0))), rfl, bel.frame _, fun h => by cases h⟩

theorem over : Rows.matrixApplyRow.holds Try.pinned (OpenSpec.ofChange Rows.matrixApplySpec) :=
  OpenClaim.holds_of_wide 7 Try.f7 rfl rfl rfl rfl rfl rfl rfl ⟨rfl, rfl, rfl, rfl, rfl⟩ rfl rfl rfl rfl rfl (by kernel_rfl) Try.func7 (by kernel_rfl)
    (of_decide_eq_true (by kernel_rfl)) (by unfold Func.isWrapper; first | (rw [if_pos (by decide +kernel)]; kernel_rfl) | (rw [if_neg (by decide +kernel)]; exact ⟨rfl, rfl⟩))
    (fun os started H enc _ => lifted os started H enc)

theorem proved : Rows.MatrixApplySaid := over
end Go.Proofs.Ytomlfmfahlcedaa.matrixApply
