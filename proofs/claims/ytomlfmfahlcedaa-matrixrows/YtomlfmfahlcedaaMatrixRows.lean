/- Proved: for any two lists of rows of numbers and any bytes the law MatrixRows answers true (over the field of 8 bits rows picked of a product are those of the first matrix, times the second one, and the product of a joined matrix is both products, joined), and its arguments read as they did. No conditions. -/
import Derived.Test.YtomlfmfahlcedaaRows
import Derived.Test.YtomlfmfahlcedaaMtp
import Derived.Test.YtomlfmfahlcedaaMto
import Derived.Deep.RegionHeld3
import Derived.WalkKit
import Derived.ProofKit
import Derived.OpenShut
import Derived.ShutString
import Derived.ChangeOld
import Derived.Below
namespace Go.Proofs.Ytomlfmfahlcedaa.matrixRows
open Go.ChangeShapes Go.WideShapes Go.ChangeAt Go.RowKit
set_option linter.unusedVariables false

theorem own : ownKnob Try.prog.godebug = none := by kernel_rfl
theorem laidOut : laidOutB Try.prog = true := by kernel_rfl

theorem join_may {c n k : Nat} {La Lb : Nat → Nat} {F G : Nat → Nat → Int} (h : joinP c n La F k Lb G) : mayP c (n + k) (joinL n La Lb) (joinF n F G) := by
  obtain ⟨h1, h2, h3, h4⟩ := h
  have hn := h1.1.1
  have e0 : joinL n La Lb 0 = La 0 := by unfold joinL; rw [if_pos (by omega)]
  refine ⟨⟨by omega, h4⟩, by rw [e0]; exact h1.2.1, fun r hr => ?_⟩
  rw [e0]
  unfold joinL joinF
  by_cases hrn : r < n
  · rw [if_pos hrn, if_pos hrn]; exact h1.2.2 r hrn
  · rw [if_neg hrn, if_neg hrn, h3]; exact h2.2.2 (r - n) (by omega)
theorem mulF_join {p n k : Nat} {F F' G : Nat → Nat → Int} (r c : Nat) : mulF p (joinF n F F') G k r c = joinF n (mulF p F G k) (mulF p F' G k) r c := by
  unfold mulF joinF
  split <;> rfl
theorem joinL_const (n m r : Nat) : m = joinL n (fun _ => m) (fun _ => m) r := by
  unfold joinL
  split <;> rfl

/-- in the law's loop -/
def IdxAt (n m : Nat) (f : Nat → Nat) (w2 : World) (s11 s12 : Value) (wr : World) : Prop := ∃ k : Nat, k ≤ m ∧ s12 = .int .i64 k ∧ App w2 TI (i64s (fun i => ((f i % n : Nat) : Int))) k s11 wr

set_option maxRecDepth 100000 in
set_option maxHeartbeats 8000000 in
theorem walk (a0 : Option Addr) (len0 cap0 : Nat) (a1 : Option Addr) (len1 cap1 : Nat) (a2 : Option Addr) (len2 cap2 : Nat) (w : World) (w0 : IsMat w a0 len0 cap0) (w1 : IsMat w a1 len1 cap1) (w2 : IsBytes w a2 len2 cap2) :
    Calls Try.prog 6 #[.slice a0 len0 cap0, .slice a1 len1 cap1, .slice a2 len2 cap2] w fun e w' => e = .returned (.bool true) ∧ Below w.heap.size w w' := by
  obtain ⟨j0, hj, hy0, hy1, hy2⟩ := info_parts infoI
  obtain ⟨F, La, _, _, hma⟩ := w0
  obtain ⟨G, Lb, _, _, hmb⟩ := w1
  obtain ⟨f, hf, _, hmf⟩ := w2
  have HMA := Lib.hid hma
  have HMB := Lib.hid hmb
  have HMF := Lib.hid hmf
  have HF := Lib.hid hf
  clear hma hmb hmf hf
  go_enter Try.func6, Try.ntmps6
  go_wp2_with fail
  refine (awakeM _).mono ?_
  rintro e w1 ⟨rfl, hb1⟩
  have H1 := Lib.hid hb1
  clear hb1
  go_wp2_with fail
  refine (few10 w.heap.size F La a0 len0 cap0 _ ((HMA.out _ (Nat.le_refl _)).below H1.out)).mono ?_
  rintro e w' ⟨t, rfl, ht, rfl⟩
  cases t
  · clear ht
    go_wp2_with fail
    go_ret
    exact ⟨rfl, H1.out⟩
  obtain ⟨hn0, hLs⟩ := ht rfl
  clear ht hLs
  go_wp2_with fail
  refine (few10 w.heap.size G Lb a1 len1 cap1 _ ((HMB.out _ (Nat.le_refl _)).below H1.out)).mono ?_
  rintro e w' ⟨t, rfl, ht, rfl⟩
  cases t
  · clear ht
    go_wp2_with fail
    go_ret
    exact ⟨rfl, H1.out⟩
  obtain ⟨hn1, hLs⟩ := ht rfl
  clear ht hLs
  by_cases hz : len2 = 0
  · have hb : (((len2 : Nat) : Int) == 0) = true := by simp [hz]
    clear hz
    go_wp2_with fail
    go_ret
    exact ⟨rfl, H1.out⟩
  have hb2 : (((len2 : Nat) : Int) == 0) = false := by simp; omega
  by_cases hl20 : 20 < len2
  · go_wp2_with fail
    go_ret
    exact ⟨rfl, H1.out⟩
  by_cases hz0 : len0 = 0
  · have hb : (((len0 : Nat) : Int) == 0) = true := by simp [hz0]
    have hd : decide ((20 : Int) < ((len2 : Nat) : Int)) = false := by simp; omega
    clear hz0
    go_wp2_with fail
    go_ret
    exact ⟨rfl, H1.out⟩
  have hb0 : (((len0 : Nat) : Int) == 0) = false := by simp; omega
  have hd : decide ((20 : Int) < ((len2 : Nat) : Int)) = false := by simp; omega
  have hm20 : len2 ≤ 20 := by omega
  have hm1 : 1 ≤ len2 := by omega
  have hn1' : 1 ≤ len0 := by omega
  clear hz hl20 hz0
  go_wp2_with fail
  refine (mfield_no _).mono ?_
  rintro e w2 ⟨b, rfl, hFl, hnb, hb3⟩
  have hL := Live.start H1.out hFl hnb hb3
  have HL := Lib.hid hL
  have hlow : w.heap.size ≤ b := hL.2.2
  have hkd := good285.kind
  have KEEP := Lib.hid (show ∀ w', Live 285 b 8 w w' → Mx b w' F La a0 len0 ∧ Mx b w' G Lb a1 len1 ∧ Rd b w' (u8s f) a2 len2 from fun w' h =>
    ⟨(HMA.out b hlow).below h.2.1, (HMB.out b hlow).below h.2.1, (HMF.out b hlow).below h.2.1⟩)
  clear hFl hnb hb3 H1 hL HMA HMB HMF
  go_wp2_with fail
  go_loopw [11, 12] (fun s11 s12 wr => IdxAt len0 len2 f w2 s11 s12 wr) (fun _ s12 _ => len2 - (intOf s12).toNat)
  case atStart => exact ⟨0, Nat.zero_le _, rfl, App.start _ _ _⟩
  case round =>
    obtain ⟨k, hk, rfl, happ⟩ := hrel
    have HA := Lib.hid happ
    have hsz := happ.2.size
    clear happ
    by_cases hlt : k < len2
    · obtain ⟨ad, rfl, hcell⟩ := ((KEEP.out _ (HL.out.below HA.out.2)).2.2).at_ hlt
      simp only [u8s] at hcell
      have hx := HF.out k
      obtain ⟨x, hfx⟩ : ∃ x, f k = x := ⟨_, rfl⟩
      have HX := Lib.hid hfx
      rw [hfx] at hcell hx
      clear hfx
      have hne : ¬ ((len0 : Nat) : Int) = 0 := by omega
      go_wp2_with (at_builtin; refine wpList_append_own _ rfl _ _ TIs rfl w2.heap.size TI j0 (.int .i64 0) 1 8 underI hj hy0 hy1 hy2 rfl (by decide) _ _ _ rfl (HA.out.1.alloc _) ⟨wr.heap.size, 0, none⟩ 1 1 [i64s (fun i => ((f i % len0 : Nat) : Int)) k] rfl rfl (news_one ?cc1) (one_i64 _) (by unfold maxLen; omega) (by omega) (by simp; omega) ?_)
      case cc1 =>
        simp only [i64s]
        rw [HX.out, Int.natCast_emod]
      intro v' w3 hown' hgrow _
      have HS := Lib.hid (HA.out.step hown' hgrow)
      clear hown' hgrow
      go_wp2_with fail
      exact ⟨⟨k + 1, hlt, by go_num, HS.out⟩, by simp [intOf]; omega⟩
    · obtain rfl : k = len2 := by omega
      obtain ⟨AL, cl, rfl, _, hrl⟩ := HA.out.rd HL.out.1.lt
      have HL2 := Lib.hid (HL.out.below HA.out.2)
      have RL := Lib.hid hrl
      have HIN := Lib.hid (show ∀ r, r < k → 0 ≤ ((f r % len0 : Nat) : Int) ∧ ((f r % len0 : Nat) : Int) < len0 from fun r _ => by have := Nat.mod_lt (f r) (show len0 > 0 by omega); omega)
      obtain ⟨l, hl⟩ : ∃ l : Nat → Int, (fun i => ((f i % len0 : Nat) : Int)) = l := ⟨_, rfl⟩
      have HIN2 := Lib.hid (show ∀ r, r < k → 0 ≤ l r ∧ l r < len0 from fun r hr => by rw [← hl]; exact HIN.out r hr)
      rw [hl] at RL
      clear hrl HA HIN hl
      go_wp2_with fail
      refine (mmul_any 285 b 8 F G La Lb a0 a1 len0 len1 cap0 cap1 _ HL2.out.1 (KEEP.out _ HL2.out).1 (KEEP.out _ HL2.out).2.1).mono ?_
      rintro e w3 ⟨t3, A3, c3, rfl, ht3, hx3, hf3, htr3⟩
      have HL3 := Lib.hid (HL2.out.next hf3 htr3)
      have RL3 := Lib.hid (RL.out.turned htr3)
      cases t3
      · rw [show errOf false = 1 from rfl]
        clear hx3 hf3 htr3 ht3
        go_wp2_with fail
        go_ret
        exact ⟨rfl, HL3.out.2.1⟩
      rw [show errOf true = 0 from rfl]
      simp only [cond] at hx3 ⊢
      have X3 := Lib.hid hx3
      have h3 := ht3.1 rfl
      have hsm : side k := ⟨hm1, hm20⟩
      have hxm := mulF_may good285 F G len1 h3.1.1 h3.2.1.2.1
      have HP4 := Lib.hid (show pickP (M.ord 285) len0 (fun _ => Lb 0) (mulF 285 F G len1) k l from ⟨hxm, hsm, HIN2.out⟩)
      have hpm : mayP (M.ord 285) k (fun r => La (l r).toNat) (fun r => F (l r).toNat) := ⟨hsm, by
          have h0 := HIN2.out 0 (by omega)
          dsimp only
          rw [(h3.1.2.2 (l 0).toNat (by omega)).1]; exact h3.1.2.1, fun r hr => by
          have h0 := HIN2.out 0 (by omega)
          have hr' := HIN2.out r hr
          dsimp only
          rw [(h3.1.2.2 (l 0).toNat (by omega)).1]
          exact ⟨(h3.1.2.2 (l r).toNat (by omega)).1, (h3.1.2.2 (l r).toNat (by omega)).2⟩⟩
      have hl0 : La (l 0).toNat = len1 := by
        have h0 := HIN2.out 0 (by omega)
        rw [(h3.1.2.2 (l 0).toNat (by omega)).1]
        exact h3.2.2
      have HP5 := Lib.hid (show pickP (M.ord 285) len0 La F k l from ⟨h3.1, hsm, HIN2.out⟩)
      have HP6 := Lib.hid (And.intro hpm (And.intro h3.2.1 hl0))
      have hj7 : joinP (M.ord 285) len0 La F len0 La F := ⟨h3.1, h3.1, rfl, by omega⟩
      have HP8 := Lib.hid (And.intro (join_may hj7) (And.intro h3.2.1 (show joinL len0 La La 0 = len1 by unfold joinL; rw [if_pos (by omega)]; exact h3.2.2)))
      have HP7 := Lib.hid (And.intro h3.1 (show len0 + len0 ≤ 20 by omega))
      have HP9 := Lib.hid hxm
      have hlb : Lb 0 ≤ 1000 := by have := h3.2.1.2.1.2; omega
      have hd10 : decide (((len0 : Nat) : Int) ≤ 10) = true := by simp; omega
      clear hx3 hf3 htr3 ht3 h3 hxm hpm hl0 hj7 HL2 RL
      go_wp2_with fail
      refine (pick12 b 8 _ hkd _ _ A3 AL len0 k c3 cl l _ HL3.out.1.c0 X3.out RL3.out).mono ?_
      rintro e w4 ⟨t4, v4, rfl, ht4, hv4⟩
      obtain rfl : t4 = true := ht4.2 HP4.out
      rw [show errOf true = 0 from rfl]
      simp only [cond] at hv4
      obtain ⟨A4, c4, rfl, _, hx4, hb4⟩ := hv4.at_ HL3.out.1.lt
      have HL4 := Lib.hid (HL3.out.below hb4)
      have RL4 := Lib.hid (RL3.out.below hb4)
      have X4 := Lib.hid (X3.out.below hb4)
      have Y4 := Lib.hid hx4
      clear hv4 hx4 hb4 ht4 HL3 RL3 X3
      go_wp2_with fail
      refine (pick12 b 8 _ hkd F La a0 AL len0 k cap0 cl l _ HL4.out.1.c0 (KEEP.out _ HL4.out).1 RL4.out).mono ?_
      rintro e w5 ⟨t5, v5, rfl, ht5, hv5⟩
      obtain rfl : t5 = true := ht5.2 HP5.out
      rw [show errOf true = 0 from rfl]
      simp only [cond] at hv5
      obtain ⟨A5, c5, rfl, _, hx5, hb5⟩ := hv5.at_ HL4.out.1.lt
      have HL5 := Lib.hid (HL4.out.below hb5)
      have X5 := Lib.hid (X4.out.below hb5)
      have Y5 := Lib.hid (Y4.out.below hb5)
      have Z5 := Lib.hid hx5
      clear hv5 hx5 hb5 ht5 HL4 RL4 X4 Y4
      go_wp2_with fail
      refine (mmul_any 285 b 8 _ G _ Lb A5 a1 k len1 c5 cap1 _ HL5.out.1 Z5.out (KEEP.out _ HL5.out).2.1).mono ?_
      rintro e w6 ⟨t6, A6, c6, rfl, ht6, hx6, hf6, htr6⟩
      obtain rfl : t6 = true := ht6.2 HP6.out
      rw [show errOf true = 0 from rfl]
      simp only [cond] at hx6 ⊢
      have HL6 := Lib.hid (HL5.out.next hf6 htr6)
      have X6 := Lib.hid (X5.out.turned htr6)
      have Y6 := Lib.hid (Y5.out.turned htr6)
      have U6 := Lib.hid hx6
      clear hx6 hf6 htr6 ht6 HL5 X5 Y5 Z5
      go_wp2_with fail
      refine (same19 b b _ _ _ _ A4 A6 k c4 c6 (by omega) (fun _ _ => hlb) _ Y6.out U6.out (fun _ _ => rfl) (fun _ _ _ _ => rfl)).mono ?_
      rintro e w7 ⟨rfl, q7, rfl⟩
      have HL7 := Lib.hid (HL6.out.below (below_drewN' w6 q7))
      have X7 := Lib.hid (X6.out.below (below_drewN' w6 q7))
      generalize w6.drewN q7 = w7 at *
      clear HL6 X6 Y6 U6
      go_wp2_with fail
      refine (join14 b 8 _ hkd F F La La a0 a0 len0 len0 cap0 cap0 _ HL7.out.1.c0 (KEEP.out _ HL7.out).1 (KEEP.out _ HL7.out).1).mono ?_
      rintro e w8 ⟨t8, v8, rfl, ht8, hv8⟩
      obtain rfl : t8 = true := ht8.2 ⟨HP7.out.1, HP7.out.1, rfl, HP7.out.2⟩
      rw [show errOf true = 0 from rfl]
      simp only [cond] at hv8
      obtain ⟨A8, c8, rfl, _, hx8, hb8⟩ := hv8.at_ HL7.out.1.lt
      have HL8 := Lib.hid (HL7.out.below hb8)
      have X8 := Lib.hid (X7.out.below hb8)
      have Y8 := Lib.hid hx8
      clear hv8 hx8 hb8 ht8 HL7 X7
      go_wp2_with fail
      refine (mmul_any 285 b 8 _ G _ Lb A8 a1 (len0 + len0) len1 c8 cap1 _ HL8.out.1 Y8.out (KEEP.out _ HL8.out).2.1).mono ?_
      rintro e w9 ⟨t9, A9, c9, rfl, ht9, hx9, hf9, htr9⟩
      obtain rfl : t9 = true := ht9.2 HP8.out
      rw [show errOf true = 0 from rfl]
      simp only [cond] at hx9 ⊢
      have HL9 := Lib.hid (HL8.out.next hf9 htr9)
      have X9 := Lib.hid (X8.out.turned htr9)
      have U9 := Lib.hid hx9
      clear hx9 hf9 htr9 ht9 HL8 X8 Y8
      go_wp2_with fail
      refine (join14 b 8 _ hkd _ _ _ _ A3 A3 len0 len0 c3 c3 _ HL9.out.1.c0 X9.out X9.out).mono ?_
      rintro e w10 ⟨t10, v10, rfl, ht10, hv10⟩
      obtain rfl : t10 = true := ht10.2 ⟨HP9.out, HP9.out, rfl, HP7.out.2⟩
      rw [show errOf true = 0 from rfl]
      simp only [cond] at hv10
      obtain ⟨A10, c10, rfl, _, hx10, hb10⟩ := hv10.at_ HL9.out.1.lt
      have HL10 := Lib.hid (HL9.out.below hb10)
      have U10 := Lib.hid (U9.out.below hb10)
      have V10 := Lib.hid hx10
      clear hv10 hx10 hb10 ht10 HL9 X9 U9
      go_wp2_with fail
      refine (same19 b b _ _ _ _ A9 A10 (len0 + len0) c9 c10 (by omega) (fun _ _ => hlb) _ U10.out V10.out (fun r _ => joinL_const len0 (Lb 0) r) (fun r _ j _ => mulF_join r j)).mono ?_
      rintro e w11 ⟨rfl, q11, rfl⟩
      have HB := Lib.hid (below_tr HL10.out.2.1 (below_drewN' w10 q11))
      go_wp2_with fail
      go_ret
      exact ⟨rfl, HB.out⟩

set_option maxRecDepth 100000 in
theorem lifted (os : Os) (started : os.Started) (H : Type) (enc : TypeId × Value → H) :
    ReturnsInHanded {} Try.checked os 6 .any (Rows.matrixRowsSpec.pre6 enc Try.prog Try.f6 Rows.matrixRowsRow.domain false) (Rows.matrixRowsSpec.post enc Try.prog Try.f6 false true false false) := by
  refine returnsInHanded_of_change (C := Try.checked) own started (by kernel_rfl) Try.func6
    (ChangeSpec.witness6 (enc := enc) (C := Try.checked) false ⟨#[], #[.slice none 0 0, .slice none 0 0, .slice none 0 0], []⟩ 8 (by kernel_rfl) (by kernel_rfl) (by kernel_rfl) (by kernel_rfl)) ?_
  intro W base args ds gs before hval0 hW hcnd _
  have hval : ∀ (j : Nat) t v, Try.f6.params[j]? = some t → args[j]? = some v → Value.okWide Try.prog W .any base t v := hval0
  have hW' := hW
  obtain ⟨p, q, hA0, hV, rfl, hfz, hnd⟩ := hW
  have hA : DataW.TrodAll enc Try.prog W 0 (fun _ => true) true Try.f6.params.toList args.toList ds p := hA0
  rw [Try.params6] at hA hval
  obtain ⟨v0, vs0, d0, ds0, p0, q0, hargs, rfl, rfl, h0, r0⟩ := trodAll_cons hA
  obtain ⟨v1, vs1, d1, ds1, p1, q1, rfl, rfl, rfl, h1, r1⟩ := trodAll_cons r0
  obtain ⟨v2, vs2, d2, ds2, p2, q2, rfl, rfl, rfl, h2, r2⟩ := trodAll_cons r1
  obtain ⟨rfl, rfl, rfl⟩ := trodAll_nil r2
  obtain rfl : args = #[v0, v1, v2] := by cases args; simp_all
  obtain ⟨rfl, rfl⟩ := trodVars_none hV
  obtain ⟨a0, len0, cap0, rfl⟩ := okWide_slice Try.underlying22 (hval 0 22 v0 rfl rfl)
  have k0 := h0
  have lt0 : ∀ x ∈ p0, x.block < W.heap.size := by obtain ⟨m, hm⟩ := k0; exact DataW.trod_lt m _ _ _ hm
  have w0 : IsMat W a0 len0 cap0 := by
    obtain ⟨fuel, hf⟩ := h0
    exact mat_in hf
  obtain ⟨a1, len1, cap1, rfl⟩ := okWide_slice Try.underlying22 (hval 1 22 v1 rfl rfl)
  have k1 := h1
  have lt1 : ∀ x ∈ p1, x.block < W.heap.size := by obtain ⟨m, hm⟩ := k1; exact DataW.trod_lt m _ _ _ hm
  have w1 : IsMat W a1 len1 cap1 := by
    obtain ⟨fuel, hf⟩ := h1
    exact mat_in hf
  obtain ⟨a2, len2, cap2, rfl⟩ := okWide_slice Try.underlying53 (hval 2 53 v2 rfl rfl)
  have k2 := h2
  have lt2 : ∀ x ∈ p2, x.block < W.heap.size := by obtain ⟨m, hm⟩ := k2; exact DataW.trod_lt m _ _ _ hm
  have w2 : IsBytes W a2 len2 cap2 := by
    obtain ⟨fuel, hf⟩ := h2
    exact bytes_in hf
  clear hA0 hval0
  refine (walk a0 len0 cap0 a1 len1 cap1 a2 len2 cap2 W w0 w1 w2).mono fun e W' ⟨he, bel⟩ => ?_
  subst he
  exact ⟨_, rfl, _, _, _, [], _, [], hW', trodAll_mk1 (shut_bool Try.underlying4 _), (trodAll_cons_mk (Below.trod laidOut (by kernel_rfl) (of_decide_eq_true (by kernel_rfl)) k0 bel lt0) (trodAll_cons_mk (Below.trod laidOut (by kernel_rfl) (of_decide_eq_true (by kernel_rfl)) k1 bel lt1) (trodAll_cons_mk (Below.trod laidOut (by kernel_rfl) (of_decide_eq_true (by kernel_rfl)) k2 bel lt2) trodAll_mk0))), rfl, bel.frame _, fun h => by cases h⟩

theorem over : Rows.matrixRowsRow.holds Try.pinned (OpenSpec.ofChange Rows.matrixRowsSpec) :=
  OpenClaim.holds_of_wide 6 Try.f6 rfl rfl rfl rfl rfl rfl rfl ⟨rfl, rfl, rfl, rfl, rfl⟩ rfl rfl rfl rfl rfl (by kernel_rfl) Try.func6 (by kernel_rfl)
    (of_decide_eq_true (by kernel_rfl)) (by unfold Func.isWrapper; first | (rw [if_pos (by decide +kernel)]; kernel_rfl) | (rw [if_neg (by decide +kernel)]; exact ⟨rfl, rfl⟩))
    (fun os started H enc _ => lifted os started H enc)

theorem proved : Rows.MatrixRowsSaid := over
end Go.Proofs.Ytomlfmfahlcedaa.matrixRows
