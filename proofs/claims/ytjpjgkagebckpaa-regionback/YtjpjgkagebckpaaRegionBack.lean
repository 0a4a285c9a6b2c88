/- Proved: for either field, any bytes and any numbers of 16 bits the law RegionBack answers true (numbers and bytes are told there and back), and its arguments read as they did. No conditions. -/
import Derived.Test.YtjpjgkagebckpaaRows
import Derived.Test.YtjpjgkagebckpaaRgi
import Derived.WalkKit
import Derived.ProofKit
import Derived.OpenShut
import Derived.ShutString
import Derived.ChangeOld
import Derived.Below
namespace Go.Proofs.Ytjpjgkagebckpaa.regionBack
open Go.ChangeShapes Go.WideShapes Go.ChangeAt Go.RowKit
open Go.ChangeMaps (open_string shut_string)
set_option linter.unusedVariables false

theorem own : ownKnob Try.prog.godebug = none := by kernel_rfl
theorem laidOut : laidOutB Try.prog = true := by kernel_rfl

/-- a slice of integers that came in: nil, or a row of numbers -/
def IsRow (k : IntKind) (w : World) (a : Option Addr) (len cap : Nat) (zs : List Int) : Prop :=
  (a = none ∧ len = 0 ∧ cap = 0 ∧ zs = []) ∨
  ∃ x, a = some x ∧ len ≤ cap ∧ cap ≤ maxLen ∧ zs.length = cap ∧ (∀ i, i < zs.length → w.cell? (x.add i) = some (.int k (zs.getD i 0))) ∧ ∀ n ∈ zs, (Lit.int k n).wf = true

/-- the numbers that the law gathers -/
def kk (n : Nat) (l : Nat → Int) (j : Nat) : Int := if n = 1 then l j % 256 else l j
theorem kk_in {wd n c : Nat} (hw : Wide wd n c) {l : Nat → Int} (hl : ∀ j, 0 ≤ l j ∧ l j ≤ 65535) (j : Nat) : 0 ≤ kk n l j ∧ kk n l j ≤ c := by
  have := hl j
  rcases hw with ⟨rfl, rfl, rfl⟩ | ⟨rfl, rfl, rfl⟩ <;> simp [kk] <;> omega
theorem allIn_word {wd n c : Nat} (hw : Wide wd n c) {f : Nat → Nat} (hf : ∀ j, f j < 256) (m : Nat) : allIn c (fun j => (word n f j : Int)) m := fun j _ => by
  have := word_le hw hf j
  show 0 ≤ (word n f j : Int) ∧ (word n f j : Int) ≤ c
  omega
/-- in the law's loop -/
def BackAt (n m : Nat) (l : Nat → Int) (w : World) (s15 s16 : Value) (wr : World) : Prop := ∃ k : Nat, k ≤ m ∧ s16 = .int .i64 k ∧ App w TI (i64s (kk n l)) k s15 wr

set_option maxRecDepth 100000 in
set_option maxHeartbeats 4000000 in
theorem walk (a0 : Bool) (a1 : Option Addr) (len1 cap1 : Nat) (z1 : List Int) (a2 : Option Addr) (len2 cap2 : Nat) (z2 : List Int) (w : World) (w1 : IsRow .u8 w a1 len1 cap1 z1) (w2 : IsRow .u16 w a2 len2 cap2 z2) :
    Calls Try.prog 5 #[.bool a0, .slice a1 len1 cap1, .slice a2 len2 cap2] w fun e w' => e = .returned (.bool true) ∧ Below w.heap.size w w' := by
  obtain ⟨i0, hi, hz0, hz1, hz2⟩ := info_parts infoI
  obtain ⟨hc1, f, hf, hr1⟩ := rd_bytes w1
  obtain ⟨hc2, hr2⟩ := rd_in w2
  have hwf : ∀ n ∈ z2, (Lit.int .u16 n).wf = true := by
    rcases w2 with ⟨_, _, _, rfl⟩ | ⟨_, _, _, _, _, _, h⟩
    · intro n hn; cases hn
    · exact h
  obtain ⟨l, hl⟩ : ∃ l : Nat → Int, (fun j => z2.getD j 0) = l := ⟨_, rfl⟩
  have hlb : ∀ j, 0 ≤ l j ∧ l j ≤ 65535 := fun j => by
    rw [← hl]
    simp only [List.getD_eq_getElem?_getD]
    by_cases hj : j < z2.length
    · have := bounds_u16 (hwf _ (List.getElem_mem hj))
      simp [hj]; omega
    · simp [hj]
  have hr2' : ∀ b, w.heap.size ≤ b → Rd b w (fun j => .int .u16 (l j)) a2 len2 := fun b hb => by rw [← hl]; exact hr2 b hb
  have HR1 := Lib.hid hr1
  have HR2 := Lib.hid hr2'
  clear w1 w2 hr1 hr2 hr2' hl hwf
  go_enter Try.func5, Try.ntmps5
  go_wp2_with fail
  refine (awakeR _).mono ?_
  rintro e w1 ⟨rfl, hb1⟩
  have H1 := Lib.hid hb1
  clear hb1
  by_cases b1 : 200 < len1
  · go_wp2_with fail
    go_ret
    exact ⟨rfl, H1.out⟩
  by_cases b2 : 100 < len2
  · go_wp2_with fail
    go_ret
    exact ⟨rfl, H1.out⟩
  go_wp2_with fail
  refine (field10 _ _).mono ?_
  rintro e w2 ⟨p, wd, n, b, hw, rfl, hF, hn, hb2⟩
  have hL := Live.start H1.out hF hn hb2
  have HL := Lib.hid hL
  have hbl := hF.lt
  have R1 := Lib.hid ((HR1.out b hL.2.2).turned (Turned.of_below hL.2.1))
  have R2 := Lib.hid ((HR2.out b hL.2.2).turned (Turned.of_below hL.2.1))
  have HW := Lib.hid hw
  clear hF hn hb2 H1 hL HR1 HR2 hw
  go_wp2_with fail
  refine (words_any b wd n _ HW.out f hf a1 len1 cap1 (by omega) _ HL.out.1.c0 hbl R1.out).mono ?_
  rintro e w3 ⟨v3, rfl, hv3⟩
  obtain ⟨A3, c3, rfl, _, hrd3, hb3⟩ := hv3
  have HL3 := Lib.hid (HL.out.below hb3)
  have hbl3 := Nat.lt_of_lt_of_le hbl hb3.size
  have R13 := Lib.hid (R1.out.below hb3)
  have R23 := Lib.hid (R2.out.below hb3)
  obtain ⟨d, hd⟩ : ∃ d, decide (len1 % n = 0) = d := ⟨_, rfl⟩
  rw [hd] at hrd3 ⊢
  have HD := Lib.hid hd
  obtain ⟨M, hM⟩ : ∃ M, cond d (len1 / n) 0 = M := ⟨_, rfl⟩
  rw [hM] at hrd3 ⊢
  have HM := Lib.hid hM
  have hMb : M ≤ 200 := by
    have := Nat.div_le_self len1 n
    rw [← hM]
    cases d <;> simp <;> omega
  have X3 := Lib.hid hrd3
  clear hrd3 hb3 HL R1 R2 hd hM
  go_wp2_with fail
  refine (bytes_any b wd n _ HW.out (fun j => word n f j) A3 M c3 (by omega) _ HL3.out.1.c0 X3.out hbl3).mono ?_
  rintro e w4 ⟨t, v4, rfl, ht, A4, c4, rfl, _, hrd4, hb4⟩
  obtain rfl : t = true := ht.2 (allIn_word HW.out hf M)
  have HL4 := Lib.hid (HL3.out.below hb4)
  have hbl4 := Nat.lt_of_lt_of_le hbl3 hb4.size
  have R14 := Lib.hid (R13.out.below hb4)
  have R24 := Lib.hid (R23.out.below hb4)
  have Y4 := Lib.hid (show Rd b w4 (u8s f) A4 (M * n) from hrd4.congr (fun j _ => by simp only [u8s]; rw [byt_word HW.out hf]))
  clear hrd4 hb4 HL3 R13 R23 X3 ht
  rw [show errOf true = 0 from rfl]
  cases d
  · rw [show errOf false = 1 from rfl]
    go_wp2_with fail
    clear HM HD Y4 R14
    go_loopw [15, 16] (fun s15 s16 wr => BackAt n len2 l w4 s15 s16 wr) (fun _ s16 _ => len2 - (intOf s16).toNat)
    case atStart => exact ⟨0, Nat.zero_le _, rfl, App.start _ _ _⟩
    case round =>
      obtain ⟨k, hk, rfl, happ⟩ := hrel
      have hsz := happ.2.size
      by_cases hlt : k < len2
      · obtain ⟨ad, rfl, hcell⟩ := (R24.out.below happ.2).at_ hlt
        have hlk := hlb k
        have HA := Lib.hid happ
        clear happ
        rcases HW.out with ⟨hwd, hn1, _⟩ | ⟨hwd, hn1, _⟩
        · have h8 : ((wd : Int) == 8) = true := by simp [hwd]
          have HK := Lib.hid (show kk n l k = l k % 256 by simp [kk, hn1])
          obtain ⟨x, hx⟩ : ∃ x, l k = x := ⟨_, rfl⟩
          rw [hx] at hcell hlk HK
          clear hwd hn1 hx
          go_wp2_with (at_builtin; refine wpList_append_own _ rfl _ _ TIs rfl w4.heap.size TI i0 (.int .i64 0) 1 8 Try.underlying23 hi hz0 hz1 hz2 rfl (by decide) _ _ _ rfl (HA.out.1.alloc _) ⟨wr.heap.size, 0, none⟩ 1 1 [i64s (kk n l) k] rfl rfl (news_one (by simp only [i64s]; rw [HK.out])) (one_i64 _) (by unfold maxLen; omega) (by omega) (by simp; omega) ?_)
          intro v' wx hown' hgrow _
          have HS := Lib.hid (HA.out.step hown' hgrow)
          clear hown' hgrow HA
          go_wp2_with fail
          exact ⟨⟨k + 1, hlt, by go_num, HS.out⟩, by simp [intOf]; omega⟩
        · have h8 : ((wd : Int) == 8) = false := by simp [hwd]
          have HK := Lib.hid (show kk n l k = l k by simp [kk, hn1])
          obtain ⟨x, hx⟩ : ∃ x, l k = x := ⟨_, rfl⟩
          rw [hx] at hcell hlk HK
          clear hwd hn1 hx
          go_wp2_with (at_builtin; refine wpList_append_own _ rfl _ _ TIs rfl w4.heap.size TI i0 (.int .i64 0) 1 8 Try.underlying23 hi hz0 hz1 hz2 rfl (by decide) _ _ _ rfl (HA.out.1.alloc _) ⟨wr.heap.size, 0, none⟩ 1 1 [i64s (kk n l) k] rfl rfl (news_one (by simp only [i64s]; rw [HK.out])) (one_i64 _) (by unfold maxLen; omega) (by omega) (by simp; omega) ?_)
          intro v' wx hown' hgrow _
          have HS := Lib.hid (HA.out.step hown' hgrow)
          clear hown' hgrow HA
          go_wp2_with fail
          exact ⟨⟨k + 1, hlt, by go_num, HS.out⟩, by simp [intOf]; omega⟩
      · obtain rfl : k = len2 := by omega
        obtain ⟨A5, c5, rfl, _, hrd5⟩ := happ.rd hbl4
        have HL5 := Lib.hid (HL4.out.below happ.2)
        have hbl5 := Nat.lt_of_lt_of_le hbl4 hsz
        have X5 := Lib.hid hrd5
        clear happ hrd5
        go_wp2_with fail
        refine (bytes_any b wd n _ HW.out (kk n l) A5 k c5 (by omega) _ HL5.out.1.c0 X5.out hbl5).mono ?_
        rintro e w6 ⟨t, v6, rfl, ht, A6, c6, rfl, _, hrd6, hb6⟩
        obtain rfl : t = true := ht.2 (fun j _ => kk_in HW.out hlb j)
        have HL6 := Lib.hid (HL5.out.below hb6)
        have hbl6 := Nat.lt_of_lt_of_le hbl5 hb6.size
        have X6 := Lib.hid (X5.out.below hb6)
        obtain ⟨K, hK⟩ : ∃ K, k * n = K := ⟨_, rfl⟩
        have hKb : K ≤ 200 := by
          have hwb := HW.out.bounds
          have : k * n ≤ 100 * 2 := Nat.mul_le_mul (by omega) hwb.2.1
          omega
        have hKd : (k : Int) * wd = 8 * K := by
          rw [← hK]
          rcases HW.out with ⟨h1, h2, _⟩ | ⟨h1, h2, _⟩ <;> rw [h1, h2] <;> omega
        rw [show cond true (k * n) 0 = K from hK] at hrd6 ⊢
        have Y6 := Lib.hid hrd6
        have HK := Lib.hid hK
        have HKM := Lib.hid (show K % n = 0 ∧ K / n = k by rw [← hK]; exact ⟨Nat.mul_mod_left _ _, Nat.mul_div_cancel _ (by have := HW.out.bounds; omega)⟩)
        clear hrd6 hb6 ht hK
        rw [show errOf true = 0 from rfl]
        go_wp2_with fail
        refine (words_any b wd n _ HW.out (byt n (kk n l)) (byt_lt n _) A6 K c6 (by omega) _ HL6.out.1.c0 hbl6 Y6.out).mono ?_
        rintro e w7 ⟨v7, rfl, hv7⟩
        rw [decide_eq_true HKM.out.1] at hv7 ⊢
        obtain ⟨A7, c7, rfl, _, hrd7, hb7⟩ := hv7
        rw [show cond true (K / n) 0 = k from HKM.out.2] at hrd7 ⊢
        have HL7 := Lib.hid (HL6.out.below hb7)
        have X7 := Lib.hid (X6.out.below hb7)
        have Y7 := Lib.hid hrd7
        clear hrd7 hb7
        rw [show errOf true = 0 from rfl]
        go_wp2_with fail
        refine (ints16 b b _ _ A7 A5 k c7 c5 (by omega) _ Y7.out X7.out (fun j _ => word_byt HW.out j (kk_in HW.out hlb j).1 (kk_in HW.out hlb j).2)).mono ?_
        rintro e w8 ⟨rfl, hb8⟩
        have HL8 := Lib.hid (HL7.out.below hb8)
        clear hb8
        go_wp2_with fail
        go_ret
        exact ⟨rfl, HL8.out.2.1⟩
  · rw [show errOf true = 0 from rfl]
    have HML := Lib.hid (show M * n = len1 by
      rw [← HM.out]
      exact Nat.div_mul_cancel (Nat.dvd_of_mod_eq_zero (of_decide_eq_true HD.out)))
    rw [show cond true (M * n) 0 = len1 from HML.out]
    rw [HML.out] at Y4
    go_wp2_with fail
    refine (same17 b b f f A4 a1 len1 c4 cap1 _ Y4.out R14.out (fun _ _ => rfl)).mono ?_
    rintro e w' ⟨rfl, rfl⟩
    go_wp2_with fail
    clear HM HD Y4 R14
    go_loopw [15, 16] (fun s15 s16 wr => BackAt n len2 l w4 s15 s16 wr) (fun _ s16 _ => len2 - (intOf s16).toNat)
    case atStart => exact ⟨0, Nat.zero_le _, rfl, App.start _ _ _⟩
    case round =>
      obtain ⟨k, hk, rfl, happ⟩ := hrel
      have hsz := happ.2.size
      by_cases hlt : k < len2
      · obtain ⟨ad, rfl, hcell⟩ := (R24.out.below happ.2).at_ hlt
        have hlk := hlb k
        have HA := Lib.hid happ
        clear happ
        rcases HW.out with ⟨hwd, hn1, _⟩ | ⟨hwd, hn1, _⟩
        · have h8 : ((wd : Int) == 8) = true := by simp [hwd]
          have HK := Lib.hid (show kk n l k = l k % 256 by simp [kk, hn1])
          obtain ⟨x, hx⟩ : ∃ x, l k = x := ⟨_, rfl⟩
          rw [hx] at hcell hlk HK
          clear hwd hn1 hx
          go_wp2_with (at_builtin; refine wpList_append_own _ rfl _ _ TIs rfl w4.heap.size TI i0 (.int .i64 0) 1 8 Try.underlying23 hi hz0 hz1 hz2 rfl (by decide) _ _ _ rfl (HA.out.1.alloc _) ⟨wr.heap.size, 0, none⟩ 1 1 [i64s (kk n l) k] rfl rfl (news_one (by simp only [i64s]; rw [HK.out])) (one_i64 _) (by unfold maxLen; omega) (by omega) (by simp; omega) ?_)
          intro v' wx hown' hgrow _
          have HS := Lib.hid (HA.out.step hown' hgrow)
          clear hown' hgrow HA
          go_wp2_with fail
          exact ⟨⟨k + 1, hlt, by go_num, HS.out⟩, by simp [intOf]; omega⟩
        · have h8 : ((wd : Int) == 8) = false := by simp [hwd]
          have HK := Lib.hid (show kk n l k = l k by simp [kk, hn1])
          obtain ⟨x, hx⟩ : ∃ x, l k = x := ⟨_, rfl⟩
          rw [hx] at hcell hlk HK
          clear hwd hn1 hx
          go_wp2_with (at_builtin; refine wpList_append_own _ rfl _ _ TIs rfl w4.heap.size TI i0 (.int .i64 0) 1 8 Try.underlying23 hi hz0 hz1 hz2 rfl (by decide) _ _ _ rfl (HA.out.1.alloc _) ⟨wr.heap.size, 0, none⟩ 1 1 [i64s (kk n l) k] rfl rfl (news_one (by simp only [i64s]; rw [HK.out])) (one_i64 _) (by unfold maxLen; omega) (by omega) (by simp; omega) ?_)
          intro v' wx hown' hgrow _
          have HS := Lib.hid (HA.out.step hown' hgrow)
          clear hown' hgrow HA
          go_wp2_with fail
          exact ⟨⟨k + 1, hlt, by go_num, HS.out⟩, by simp [intOf]; omega⟩
      · obtain rfl : k = len2 := by omega
        obtain ⟨A5, c5, rfl, _, hrd5⟩ := happ.rd hbl4
        have HL5 := Lib.hid (HL4.out.below happ.2)
        have hbl5 := Nat.lt_of_lt_of_le hbl4 hsz
        have X5 := Lib.hid hrd5
        clear happ hrd5
        go_wp2_with fail
        refine (bytes_any b wd n _ HW.out (kk n l) A5 k c5 (by omega) _ HL5.out.1.c0 X5.out hbl5).mono ?_
        rintro e w6 ⟨t, v6, rfl, ht, A6, c6, rfl, _, hrd6, hb6⟩
        obtain rfl : t = true := ht.2 (fun j _ => kk_in HW.out hlb j)
        have HL6 := Lib.hid (HL5.out.below hb6)
        have hbl6 := Nat.lt_of_lt_of_le hbl5 hb6.size
        have X6 := Lib.hid (X5.out.below hb6)
        obtain ⟨K, hK⟩ : ∃ K, k * n = K := ⟨_, rfl⟩
        have hKb : K ≤ 200 := by
          have hwb := HW.out.bounds
          have : k * n ≤ 100 * 2 := Nat.mul_le_mul (by omega) hwb.2.1
          omega
        have hKd : (k : Int) * wd = 8 * K := by
          rw [← hK]
          rcases HW.out with ⟨h1, h2, _⟩ | ⟨h1, h2, _⟩ <;> rw [h1, h2] <;> omega
        rw [show cond true (k * n) 0 = K from hK] at hrd6 ⊢
        have Y6 := Lib.hid hrd6
        have HK := Lib.hid hK
        have HKM := Lib.hid (show K % n = 0 ∧ K / n = k by rw [← hK]; exact ⟨Nat.mul_mod_left _ _, Nat.mul_div_cancel _ (by have := HW.out.bounds; omega)⟩)
        clear hrd6 hb6 ht hK
        rw [show errOf true = 0 from rfl]
        go_wp2_with fail
        refine (words_any b wd n _ HW.out (byt n (kk n l)) (byt_lt n _) A6 K c6 (by omega) _ HL6.out.1.c0 hbl6 Y6.out).mono ?_
        rintro e w7 ⟨v7, rfl, hv7⟩
        rw [decide_eq_true HKM.out.1] at hv7 ⊢
        obtain ⟨A7, c7, rfl, _, hrd7, hb7⟩ := hv7
        rw [show cond true (K / n) 0 = k from HKM.out.2] at hrd7 ⊢
        have HL7 := Lib.hid (HL6.out.below hb7)
        have X7 := Lib.hid (X6.out.below hb7)
        have Y7 := Lib.hid hrd7
        clear hrd7 hb7
        rw [show errOf true = 0 from rfl]
        go_wp2_with fail
        refine (ints16 b b _ _ A7 A5 k c7 c5 (by omega) _ Y7.out X7.out (fun j _ => word_byt HW.out j (kk_in HW.out hlb j).1 (kk_in HW.out hlb j).2)).mono ?_
        rintro e w8 ⟨rfl, hb8⟩
        have HL8 := Lib.hid (HL7.out.below hb8)
        clear hb8
        go_wp2_with fail
        go_ret
        exact ⟨rfl, HL8.out.2.1⟩

set_option maxRecDepth 100000 in
theorem lifted (os : Os) (started : os.Started) (H : Type) (enc : TypeId × Value → H) :
    ReturnsInHanded {} Try.checked os 5 .any (Rows.regionBackSpec.pre6 enc Try.prog Try.f5 Rows.regionBackRow.domain false) (Rows.regionBackSpec.post enc Try.prog Try.f5 false true false false) := by
  refine returnsInHanded_of_change (C := Try.checked) own started (by kernel_rfl) Try.func5
    (ChangeSpec.witness6 (enc := enc) (C := Try.checked) false ⟨#[], #[.bool false, .slice none 0 0, .slice none 0 0], []⟩ 8 (by kernel_rfl) (by kernel_rfl) (by kernel_rfl) (by kernel_rfl)) ?_
  intro W base args ds gs before hval0 hW hcnd _
  have hval : ∀ (j : Nat) t v, Try.f5.params[j]? = some t → args[j]? = some v → Value.okWide Try.prog W .any base t v := hval0
  have hW' := hW
  obtain ⟨p, q, hA0, hV, rfl, hfz, hnd⟩ := hW
  have hA : DataW.TrodAll enc Try.prog W 0 (fun _ => true) true Try.f5.params.toList args.toList ds p := hA0
  rw [Try.params5] at hA hval
  obtain ⟨v0, vs0, d0, ds0, p0, q0, hargs, rfl, rfl, h0, r0⟩ := trodAll_cons hA
  obtain ⟨v1, vs1, d1, ds1, p1, q1, rfl, rfl, rfl, h1, r1⟩ := trodAll_cons r0
  obtain ⟨v2, vs2, d2, ds2, p2, q2, rfl, rfl, rfl, h2, r2⟩ := trodAll_cons r1
  obtain ⟨rfl, rfl, rfl⟩ := trodAll_nil r2
  obtain rfl : args = #[v0, v1, v2] := by cases args; simp_all
  obtain ⟨rfl, rfl⟩ := trodVars_none hV
  obtain ⟨a0, rfl, rfl, rfl⟩ := open_bool Try.underlying4 (hval 0 4 v0 rfl rfl) h0
  obtain ⟨a1, len1, cap1, rfl⟩ := okWide_slice Try.underlying22 (hval 1 22 v1 rfl rfl)
  have k1 := h1
  have lt1 : ∀ x ∈ p1, x.block < W.heap.size := by obtain ⟨m, hm⟩ := k1; exact DataW.trod_lt m _ _ _ hm
  obtain ⟨z1, w1⟩ : ∃ zs, IsRow .u8 W a1 len1 cap1 zs := by
    obtain ⟨fuel, hf⟩ := h1
    rcases open_ints Try.underlying22 Try.underlying5 (by kernel_rfl) hf with ⟨hcs, _⟩ | ⟨x, l, c, zs, hcs, _, hl, hm, hz, _, hcell, hwz⟩
    · simp [Value.cells] at hcs
      obtain ⟨rfl, rfl, rfl⟩ := hcs
      exact ⟨[], .inl ⟨rfl, rfl, rfl, rfl⟩⟩
    · simp [Value.cells] at hcs
      obtain ⟨rfl, rfl, rfl⟩ := hcs
      exact ⟨zs, .inr ⟨_, rfl, hl, hm, by simpa using hz, hcell, hwz⟩⟩
  obtain ⟨a2, len2, cap2, rfl⟩ := okWide_slice Try.underlying51 (hval 2 51 v2 rfl rfl)
  have k2 := h2
  have lt2 : ∀ x ∈ p2, x.block < W.heap.size := by obtain ⟨m, hm⟩ := k2; exact DataW.trod_lt m _ _ _ hm
  obtain ⟨z2, w2⟩ : ∃ zs, IsRow .u16 W a2 len2 cap2 zs := by
    obtain ⟨fuel, hf⟩ := h2
    rcases open_ints Try.underlying51 Try.underlying52 (by kernel_rfl) hf with ⟨hcs, _⟩ | ⟨x, l, c, zs, hcs, _, hl, hm, hz, _, hcell, hwz⟩
    · simp [Value.cells] at hcs
      obtain ⟨rfl, rfl, rfl⟩ := hcs
      exact ⟨[], .inl ⟨rfl, rfl, rfl, rfl⟩⟩
    · simp [Value.cells] at hcs
      obtain ⟨rfl, rfl, rfl⟩ := hcs
      exact ⟨zs, .inr ⟨_, rfl, hl, hm, by simpa using hz, hcell, hwz⟩⟩
  clear hA0 hval0
  refine (walk a0 a1 len1 cap1 z1 a2 len2 cap2 z2 W w1 w2).mono fun e W' ⟨he, bel⟩ => ?_
  subst he
  exact ⟨_, rfl, _, _, _, [], _, [], hW', trodAll_mk1 (shut_bool Try.underlying4 _), (trodAll_cons_mk (shut_bool Try.underlying4 _) (trodAll_cons_mk (Below.trod laidOut (by kernel_rfl) (of_decide_eq_true (by kernel_rfl)) k1 bel lt1) (trodAll_cons_mk (Below.trod laidOut (by kernel_rfl) (of_decide_eq_true (by kernel_rfl)) k2 bel lt2) trodAll_mk0))), rfl, bel.frame _, fun h => by cases h⟩

theorem over : Rows.regionBackRow.holds Try.pinned (OpenSpec.ofChange Rows.regionBackSpec) :=
  OpenClaim.holds_of_wide 5 Try.f5 rfl rfl rfl rfl rfl rfl rfl ⟨rfl, rfl, rfl, rfl, rfl⟩ rfl rfl rfl rfl rfl (by kernel_rfl) Try.func5 (by kernel_rfl)
    (of_decide_eq_true (by kernel_rfl)) (by unfold Func.isWrapper; first | (rw [if_pos (by decide +kernel)]; kernel_rfl) | (rw [if_neg (by decide +kernel)]; exact ⟨rfl, rfl⟩))
    (fun os started H enc _ => lifted os started H enc)

theorem proved : Rows.RegionBackSaid := over
end Go.Proofs.Ytjpjgkagebckpaa.regionBack
