/- Rows of powers of unlike numbers, from the 0th power on, have an inverse, and of numbers two of which are alike they have none. No conditions. -/
import Derived.Test.YtkbacjfjlffmcaaRows
import Derived.Test.YtkbacjfjlffmcaaIvn
import Derived.Test.YtkbacjfjlffmcaaMto
import Derived.Deep.RegionHeld3
import Derived.WalkKit
import Derived.ProofKit
import Derived.OpenShut
import Derived.ShutString
import Derived.ChangeOld
import Derived.Below
namespace Go.Proofs.Ytkbacjfjlffmcaa.invertVander
open Go.ChangeShapes Go.WideShapes Go.ChangeAt Go.RowKit
set_option linter.unusedVariables false

theorem own : ownKnob Try.prog.godebug = none := by kernel_rfl
theorem laidOut : laidOutB Try.prog = true := by kernel_rfl

theorem i64_small (n : Nat) (h : n < 256) : IntKind.i64.wrap (n : Int) = n := by rw [IntKind.wrap_i64]; omega
/-- in the law's loops -/
def VanAt (q : FP) (b wd n : Nat) (l : Nat → Int) (F : Nat → Nat → Int) (w2 : World) (s9 s10 s11 : Value) (wr : World) : Prop := ∃ i : Nat, i ≤ n ∧ s11 = .int .i64 i ∧ Van q b wd n l F w2 i i s9 s10 wr
def VanIn (q : FP) (b wd n : Nat) (F : Nat → Int) (wi : World) (s12 s13 : Value) (wr : World) : Prop := ∃ k : Nat, k ≤ n ∧ s13 = .int .i64 k ∧ AppT q b wd wi TI (i64s F) k s12 wr

set_option maxRecDepth 100000 in
set_option maxHeartbeats 8000000 in
theorem walk (a0 : Bool) (a1 : Option Addr) (len1 cap1 : Nat) (w : World) (w1 : IsBytes w a1 len1 cap1) :
    Calls Try.prog 8 #[.bool a0, .slice a1 len1 cap1] w fun e w' => e = .returned (.bool true) ∧ Below w.heap.size w w' := by
  obtain ⟨j0, hj, hy0, hy1, hy2⟩ := info_parts infoI
  obtain ⟨i0, hi, hz0, hz1, hz2⟩ := info_parts infoRow
  obtain ⟨f, hf, _, hmf⟩ := w1
  have HMF := Lib.hid hmf
  have HF := Lib.hid hf
  clear hmf hf
  go_enter Try.func8, Try.ntmps8
  go_wp2_with fail
  refine (awakeI _).mono ?_
  rintro e w1 ⟨rfl, hb1⟩
  have H1 := Lib.hid hb1
  clear hb1
  by_cases hn0 : len1 = 0
  · subst hn0
    go_wp2_with fail
    go_ret
    exact ⟨rfl, H1.out⟩
  have he0 : (((len1 : Nat) : Int) == 0) = false := by simp; omega
  by_cases hn10 : 10 < len1
  · have hd10 : decide ((10 : Int) < ((len1 : Nat) : Int)) = true := by simp; omega
    go_wp2_with fail
    go_ret
    exact ⟨rfl, H1.out⟩
  have hd10 : decide ((10 : Int) < ((len1 : Nat) : Int)) = false := by simp; omega
  have hm10 : len1 ≤ 10 := by omega
  have hm1 : 1 ≤ len1 := by omega
  clear hn0 hn10
  go_wp2_with fail
  refine (ifield11 a0 _).mono ?_
  rintro e w2 ⟨q, wd, b, rfl, hFl, hnb, hb2⟩
  have hL := Live.start H1.out hFl hnb hb2
  have HL := Lib.hid hL
  have hlow : w.heap.size ≤ b := hL.2.2
  have hg := hFl.1
  have hkb := hg.kind.bounds
  have hbl := hFl.lt
  have KEEP := Lib.hid (show ∀ w', Live q.p b wd w w' → Rd b w' (u8s f) a1 len1 from fun w' h => (HMF.out b hlow).below h.2.1)
  have HST := Lib.hid (Van.start (q := q) hFl len1 (fun i => ((f i : Nat) : Int)) (fun r (j : Nat) => fpow q.p ((f r : Nat) : Int) j))
  have HIN := Lib.hid (show allIn (M.ord q.p) (fun i => ((f i : Nat) : Int)) len1 from fun j _ => by
    have := HF.out j
    dsimp only
    omega)
  clear hFl hnb hb2 H1 hL HMF
  go_wp2_with fail
  go_loopw [9, 10, 11] (fun s9 s10 s11 wr => VanAt q b wd len1 (fun i => ((f i : Nat) : Int)) (fun r (j : Nat) => fpow q.p ((f r : Nat) : Int) j) w2 s9 s10 s11 wr) (fun _ _ s11 _ => len1 - (intOf s11).toNat)
  case atStart => exact ⟨0, Nat.zero_le _, rfl, HST.out⟩
  case round =>
    obtain ⟨i, hin, rfl, hv⟩ := hrel
    have HV := Lib.hid hv
    have hsz := hv.pts.turned.size
    clear hv
    by_cases hlt : i < len1
    · obtain ⟨ad, rfl, hcell⟩ := (KEEP.out _ (HL.out.next HV.out.pts.fld HV.out.pts.turned)).at_ hlt
      simp only [u8s] at hcell
      have hx := HF.out i
      have hw := i64_small (f i) hx
      have HVL := Lib.hid (show i64s (fun i => ((f i : Nat) : Int)) i = .int .i64 (f i : Nat) from rfl)
      have KC := Lib.hid (show ∀ w', Fld q.p b wd w' → Turned b w2 w' → w'.cell? (ad.add i) = some (.int .u8 (f i : Nat)) from fun w' hf' ht' => by
        obtain ⟨ad', e', hc'⟩ := (KEEP.out _ (HL.out.next hf' ht')).at_ hlt
        injection e' with e'
        subst e'
        exact hc')
      obtain ⟨u, hu⟩ : ∃ u, f i = u := ⟨_, rfl⟩
      have HU := Lib.hid hu
      rw [hu] at hcell hx hw HVL KC
      clear hu
      have HOWN := Lib.hid HV.out.pts.own
      go_wp2_with (at_builtin; refine wpList_append_lies _ rfl _ _ TIs rfl w2.heap.size TI j0 (.int .i64 0) 1 8 underI hj hy0 hy1 hy2 rfl (by decide) _ i _ rfl (HOWN.out.alloc _) ⟨wr.heap.size, 0, none⟩ 1 1 [i64s (fun i => ((f i : Nat) : Int)) i] rfl rfl (news_one HVL.out.symm) (one_i64 _) (by omega) (by unfold maxLen; omega) (by omega) (by simp; omega) _ rfl ?_)
      intro g1 p1 w3 hown1 hgr1 hg1 _
      have V3 := Lib.hid (HV.out.point hown1 hgr1 (by simpa using hg1))
      have hsz3 := V3.out.pts.turned.size
      clear hown1 hgr1 hg1 hcell HOWN HV
      have HST3 := Lib.hid (AppT.start (q := q) V3.out.pts.fld TI (i64s (fun (j : Nat) => fpow q.p ((f i : Nat) : Int) j)))
      obtain ⟨wi, hwi⟩ : ∃ wi, wi = w3 := ⟨_, rfl⟩
      subst hwi
      go_wp2_with fail
      go_loopw [12, 13] (fun s12 s13 wr => VanIn q b wd len1 (fun (j : Nat) => fpow q.p ((f i : Nat) : Int) j) wi s12 s13 wr) (fun _ s13 _ => len1 - (intOf s13).toNat)
      case atStart => exact ⟨0, Nat.zero_le _, rfl, HST3.out⟩
      case round =>
        obtain ⟨k, hk, rfl, ha⟩ := hrel
        have HA := Lib.hid ha
        have hszA := ha.turned.size
        clear ha
        by_cases hlt2 : k < len1
        · have hcell := KC.out _ HA.out.fld (V3.out.pts.turned.trans HA.out.turned)
          go_wp2_with fail
          refine (fpow21 q.p b wd (u : Int) (k : Int) (by omega) _ HA.out.fld).mono ?_
          rintro e w4 ⟨rfl, hf4, ht4⟩
          have HA4 := Lib.hid (HA.out.turn (by omega) hf4 ht4)
          have hs4 := HA4.out.turned.size
          have HP := Lib.hid (show i64s (fun (j : Nat) => fpow q.p ((f i : Nat) : Int) j) k = .int .i64 (fpow q.p (u : Int) (k : Int)) by simp only [i64s]; rw [HU.out])
          obtain ⟨y, hy⟩ : ∃ y, fpow q.p (u : Int) (k : Int) = y := ⟨_, rfl⟩
          rw [hy] at HP ⊢
          clear hy hf4 ht4 HA
          go_wp2_with (at_builtin; refine wpList_append_own _ rfl _ _ TIs rfl wi.heap.size TI j0 (.int .i64 0) 1 8 underI hj hy0 hy1 hy2 rfl (by decide) _ _ _ rfl (HA4.out.own.alloc _) ⟨w4.heap.size, 0, none⟩ 1 1 [i64s (fun (j : Nat) => fpow q.p ((f i : Nat) : Int) j) k] rfl rfl (news_one HP.out.symm) (one_i64 _) (by unfold maxLen; omega) (by omega) (by simp; omega) ?_)
          intro v' w5 hown' hgrow _
          have HS := Lib.hid (HA4.out.step hown' hgrow (by decide) (by decide))
          clear hown' hgrow
          go_wp2_with fail
          exact ⟨⟨k + 1, hlt2, by go_num, HS.out⟩, by simp [intOf]; omega⟩
        · obtain rfl : k = len1 := by omega
          obtain ⟨A', c', e', _, _⟩ := HA.out.rd (show b < wi.heap.size by omega)
          subst e'
          have HRY := Lib.hid (show ∀ g, (g = b ∨ (Value.slice (some ⟨g1, 0, none⟩) (i + 1) p1).ownBlock = some g ∨ u10.ownBlock = some g) → Rd g wr (i64s (fun (j : Nat) => fpow q.p ((f i : Nat) : Int) j)) A' k from fun g hgg => by
            have hgl : g < wi.heap.size := by
              rcases hgg with rfl | hgg | hgg
              · omega
              · exact (V3.out.pts.own.lt g hgg).2
              · obtain ⟨_, _, ho, _⟩ := V3.out.rows
                exact (ho.lt g hgg).2
            obtain ⟨A2, c2, e2, _, h2⟩ := HA.out.rd hgl
            injection e2 with e2
            subst e2
            exact h2)
          have V4 := Lib.hid (V3.out.turn hbl HA.out.fld HA.out.turned)
          obtain ⟨As, Cs, ho4, hr4⟩ := V4.out.rows
          have HO4 := Lib.hid ho4
          have HR4 := Lib.hid hr4
          clear ho4 hr4 HA V3
          go_wp2_with (at_builtin; refine wpList_append_lies _ rfl _ _ TM rfl w2.heap.size TIs i0 nilS 1 24 underM hi hz0 hz1 hz2 rfl (by decide) _ i _ rfl (HO4.out.alloc _) ⟨wr.heap.size, 0, none⟩ 1 1 [.slice A' k c'] rfl rfl (news_one rfl) (one_slice _ _ _) (by omega) (by unfold maxLen; omega) (by omega) (by simp; omega) _ rfl ?_)
          intro g2 p2 w5 hown2 hgr2 hg2 _
          have HS := Lib.hid (Van.row (F := fun r (j : Nat) => fpow q.p ((f r : Nat) : Int) j) V4.out.pts HO4.out HR4.out HRY.out hown2 hgr2 (by simpa using hg2))
          clear hown2 hgr2 hg2
          go_wp2_with fail
          exact ⟨⟨i + 1, hlt, by go_num, HS.out⟩, by simp [intOf]; omega⟩
    · obtain rfl : i = len1 := by omega
      obtain ⟨A9, c9, e9, _, hr9⟩ := HV.out.pts.rd hbl
      obtain ⟨A10, c10, e10, hm3⟩ := HV.out.mx hbl
      subst e9 e10
      have HL3 := Lib.hid (HL.out.next HV.out.pts.fld HV.out.pts.turned)
      have R3 := Lib.hid hr9
      have M3 := Lib.hid hm3
      have HSQ := Lib.hid (show sqP (M.ord q.p) i (fun _ => i) (fun r (j : Nat) => fpow q.p ((f r : Nat) : Int) j) from ⟨⟨⟨hm1, by omega⟩, ⟨hm1, show i ≤ 20 by omega⟩, fun r hr => ⟨rfl, fun j _ => by
        have h1 := fpow_el (q := q) (HIN.out r hr) j
        have h2 := (ep (toEl q ((f r : Nat) : Int)) j).le
        dsimp only at h1 ⊢
        omega⟩⟩, rfl⟩)
      have HUN := Lib.hid (vander_unlike (q := q) HIN.out 256 (fun i _ => by
        have := HF.out i
        omega))
      clear hr9 hm3 HV
      go_wp2_with fail
      refine (inverse12 q b wd i (fun _ => i) (fun r (j : Nat) => fpow q.p ((f r : Nat) : Int) j) A10 c10 _ HL3.out.1 M3.out).mono ?_
      rintro e w4 ⟨s, t, A4, c4, rfl, hs, ht, _, _, hf4, ht4⟩
      obtain rfl : s = true := hs.2 HSQ.out
      have HT := Lib.hid ((ht rfl).trans HUN.out)
      have HL4 := Lib.hid (HL3.out.next hf4 ht4)
      have R4 := Lib.hid (R3.out.turned ht4)
      simp only [Bool.true_and]
      clear hs ht hf4 ht4 HL3 R3 M3 HUN
      cases t
      · rw [show err2 true false = 2 from rfl]
        go_wp2_with fail
        refine (unlike26 b (fun i => ((f i : Nat) : Int)) A9 i c9 256 (by omega) _ R4.out).mono ?_
        rintro e w5 ⟨t', rfl, ht', m, rfl⟩
        obtain rfl : t' = false := by
          cases t'
          · rfl
          · have := HT.out.2 (ht'.1 rfl)
            cases this
        have HB := Lib.hid (below_tr HL4.out.2.1 (below_drewN' w4 m))
        clear ht' HT R4
        go_wp2_with fail
        go_ret
        exact ⟨rfl, HB.out⟩
      · rw [show err2 true true = 0 from rfl]
        go_wp2_with fail
        refine (unlike26 b (fun i => ((f i : Nat) : Int)) A9 i c9 256 (by omega) _ R4.out).mono ?_
        rintro e w5 ⟨t', rfl, ht', m, rfl⟩
        obtain rfl : t' = true := ht'.2 (HT.out.1 trivial)
        have HB := Lib.hid (below_tr HL4.out.2.1 (below_drewN' w4 m))
        clear ht' HT R4
        go_wp2_with fail
        go_ret
        exact ⟨rfl, HB.out⟩

set_option maxRecDepth 100000 in
theorem lifted (os : Os) (started : os.Started) (H : Type) (enc : TypeId × Value → H) :
    ReturnsInHanded {} Try.checked os 8 .any (Rows.invertVanderSpec.pre6 enc Try.prog Try.f8 Rows.invertVanderRow.domain false) (Rows.invertVanderSpec.post enc Try.prog Try.f8 false true false false) := by
  refine returnsInHanded_of_change (C := Try.checked) own started (by kernel_rfl) Try.func8
    (ChangeSpec.witness6 (enc := enc) (C := Try.checked) false ⟨#[], #[.bool false, .slice none 0 0], []⟩ 8 (by kernel_rfl) (by kernel_rfl) (by kernel_rfl) (by kernel_rfl)) ?_
  intro W base args ds gs before hval0 hW hcnd _
  have hval : ∀ (j : Nat) t v, Try.f8.params[j]? = some t → args[j]? = some v → Value.okWide Try.prog W .any base t v := hval0
  have hW' := hW
  obtain ⟨p, q, hA0, hV, rfl, hfz, hnd⟩ := hW
  have hA : DataW.TrodAll enc Try.prog W 0 (fun _ => true) true Try.f8.params.toList args.toList ds p := hA0
  rw [Try.params8] at hA hval
  obtain ⟨v0, vs0, d0, ds0, p0, q0, hargs, rfl, rfl, h0, r0⟩ := trodAll_cons hA
  obtain ⟨v1, vs1, d1, ds1, p1, q1, rfl, rfl, rfl, h1, r1⟩ := trodAll_cons r0
  obtain ⟨rfl, rfl, rfl⟩ := trodAll_nil r1
  obtain rfl : args = #[v0, v1] := by cases args; simp_all
  obtain ⟨rfl, rfl⟩ := trodVars_none hV
  obtain ⟨a0, rfl, rfl, rfl⟩ := open_bool Try.underlying4 (hval 0 4 v0 rfl rfl) h0
  obtain ⟨a1, len1, cap1, rfl⟩ := okWide_slice Try.underlying51 (hval 1 51 v1 rfl rfl)
  have k1 := h1
  have lt1 : ∀ x ∈ p1, x.block < W.heap.size := by obtain ⟨m, hm⟩ := k1; exact DataW.trod_lt m _ _ _ hm
  have w1 : IsBytes W a1 len1 cap1 := by
    obtain ⟨fuel, hf⟩ := h1
    exact bytes_in hf
  clear hA0 hval0
  refine (walk a0 a1 len1 cap1 W w1).mono fun e W' ⟨he, bel⟩ => ?_
  subst he
  exact ⟨_, rfl, _, _, _, [], _, [], hW', trodAll_mk1 (shut_bool Try.underlying4 _), (trodAll_cons_mk (shut_bool Try.underlying4 _) (trodAll_cons_mk (Below.trod laidOut (by kernel_rfl) (of_decide_eq_true (by kernel_rfl)) k1 bel lt1) trodAll_mk0)), rfl, bel.frame _, fun h => by cases h⟩

theorem over : Rows.invertVanderRow.holds Try.pinned (OpenSpec.ofChange Rows.invertVanderSpec) :=
  OpenClaim.holds_of_wide 8 Try.f8 rfl rfl rfl rfl rfl rfl rfl ⟨rfl, rfl, rfl, rfl, rfl⟩ rfl rfl rfl rfl rfl (by kernel_rfl) Try.func8 (by kernel_rfl)
    (of_decide_eq_true (by kernel_rfl)) (by unfold Func.isWrapper; first | (rw [if_pos (by decide +kernel)]; kernel_rfl) | (rw [if_neg (by decide +kernel)]; exact ⟨rfl, rfl⟩))
    (fun os started H enc _ => lifted os started H enc)

theorem proved : Rows.InvertVanderSaid := over
end Go.Proofs.Ytkbacjfjlffmcaa.invertVander
