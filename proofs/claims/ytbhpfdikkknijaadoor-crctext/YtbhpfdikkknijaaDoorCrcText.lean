/- A sum is told there and back as a text; any text, as a sum, is what it says, or none. Condition: the package-level variables of the library which the row lists (strconv.ErrSyntax, strconv.ErrRange, internal/strconv.uint64pow10, math/bits.deBruijn32tab, math/bits.deBruijn64tab) hold, when the call begins, what the text of the library lays there; the card ties that to the text, over the pruned copy of the project that the seat holds. -/
import Derived.Test.YtbhpfdikkknijaaDoorRows
import Derived.Test.YtbhpfdikkknijaaDoorCrk
import Derived.Test.YtbhpfdikkknijaaDoorGxx
import Derived.Test.YtbhpfdikkknijaaDoorCro
import Derived.Test.YtbhpfdikkknijaaDoorCards
import Derived.Test.YtbhpfdikkknijaaDoorTie
import Derived.SevenTiedAt
import Derived.ChangeMaps5
import Derived.Deep.RegionHeld3
import Derived.WalkKit
import Derived.ProofKit
import Derived.OpenShut
import Derived.ShutString
import Derived.ChangeOld
import Derived.Below
namespace Go.Proofs.YtbhpfdikkknijaaDoor.crcText
open Go.ChangeShapes Go.WideShapes Go.ChangeAt Go.RowKit
set_option linter.unusedVariables false

theorem own : ownKnob Tryd.prog.godebug = none := by kernel_rfl
theorem laidOut : laidOutB Tryd.prog = true := by kernel_rfl

set_option maxRecDepth 100000 in
set_option maxHeartbeats 8000000 in
theorem walk (a0 : Int) (a1 : ByteArray) (w : World) (w0 : 0 ≤ a0 ∧ a0 ≤ 4294967295) (w1 : a1.size ≤ maxLen) (z1 : a1.size ≤ 140737488351232) (hE : Env w) :
    Calls Tryd.prog 8 #[.int .u32 a0, .string a1] w fun e w' => e = .returned (.bool true) ∧ Below w.heap.size w w' := by
  obtain ⟨s, rfl⟩ : ∃ s : Nat, a0 = (s : Int) := ⟨a0.toNat, by omega⟩
  have hs : s < 4294967296 := by omega
  obtain ⟨f, hf, he⟩ := strF_self a1
  have hn : a1.size ≤ 281474976710656 := Nat.le_trans z1 (by decide)
  have HEN := Lib.hid hE
  obtain ⟨n, hnn⟩ : ∃ n, a1.size = n := ⟨_, rfl⟩
  rw [hnn] at he hn
  subst he
  have HF := Lib.hid hf
  have HS := Lib.hid hs
  have HN := Lib.hid hn
  clear w0 w1 z1 hf hs hn hnn
  obtain ⟨x, hx⟩ : ∃ x, strF f n = x := ⟨_, rfl⟩
  have HX := Lib.hid hx
  rw [hx]
  clear hx
  go_enter Tryd.func8, Tryd.ntmps8
  go_wp2_with fail
  refine (awakeX w hE).mono ?_
  rintro e v1 ⟨rfl, hb1⟩
  have H1 := Lib.hid hb1
  clear hb1
  go_wp2_with fail
  refine (text17 s HS.out v1 (HEN.out.below H1.out)).mono ?_
  rintro e v2 ⟨rfl, hb2⟩
  have H2 := Lib.hid (below_tr H1.out hb2)
  have HR := Lib.hid (read16 (txtI s 8) (txtI_lt s 8) 8 (by omega) v2 (HEN.out.below H2.out))
  obtain ⟨y, hy⟩ : ∃ y, strF (txtI s 8) 8 = y := ⟨_, rfl⟩
  have HY := Lib.hid hy
  rw [hy] at HR ⊢
  clear hb2 H1 hy
  go_wp2_with fail
  refine HR.out.mono ?_
  rintro e v3 ⟨t, rfl, ht, hb3⟩
  obtain rfl : t = true := ht.2 ⟨rfl, fun j _ => txtI_is s 8 j⟩
  rw [show (cond true (readN (txtI s 8) 8) 0 : Nat) = s from read_back HS.out]
  have H3 := Lib.hid (below_tr H2.out hb3)
  clear hb3 H2 ht HR
  have HR := Lib.hid (read16 f HF.out n HN.out v3 (HEN.out.below H3.out))
  rw [HX.out] at HR
  go_wp2_with fail
  refine HR.out.mono ?_
  rintro e v4 ⟨t, rfl, ht, hb4⟩
  have H4 := Lib.hid (below_tr H3.out hb4)
  have HT := Lib.hid ht
  have HQ := Lib.hid (rread18 f HF.out n (Nat.le_trans HN.out (by decide)) v4)
  rw [HX.out] at HQ
  obtain ⟨m, hm⟩ : ∃ m, (cond t (readN f 8) 0 : Nat) = m := ⟨_, rfl⟩
  have HM := Lib.hid hm
  rw [hm]
  clear hb4 H3 ht HR hm
  go_wp2_with fail
  refine HQ.out.mono ?_
  rintro e v5 ⟨t', rfl, ht', rfl⟩
  obtain rfl : t' = t := by
    have h5 := HT.out
    rw [← h5] at ht'
    cases t <;> cases t' <;> simp_all
  rw [HM.out]
  clear HQ ht'
  go_wp2_with fail
  refine (text17 s HS.out v4 (HEN.out.below H4.out)).mono ?_
  rintro e v6 ⟨rfl, hb6⟩
  have H6 := Lib.hid (below_tr H4.out hb6)
  rw [HY.out]
  clear hb6 H4
  go_wp2_with fail
  refine (rtext19 s HS.out v6).mono ?_
  rintro e v7 ⟨rfl, rfl⟩
  rw [HY.out]
  cases t' with
  | false =>
    go_wp2_with fail
    go_ret
    exact ⟨rfl, H6.out⟩
  | true =>
    obtain ⟨rfl, hh⟩ := HT.out.1 rfl
    have hmm := HM.out
    have hml : m < 4294967296 := by rw [← hmm]; exact readN_lt 8 hh
    have HC := Lib.hid (text17 m hml v6 (HEN.out.below H6.out))
    rw [show strF (txtI m 8) 8 = x by rw [← HX.out, ← hmm]; exact text_back hh] at HC
    clear hmm hml hh
    go_wp2_with fail
    refine HC.out.mono ?_
    rintro e v8 ⟨rfl, hb8⟩
    have H8 := Lib.hid (below_tr H6.out hb8)
    clear hb8
    go_wp2_with fail
    go_ret
    exact ⟨rfl, H8.out⟩

set_option maxRecDepth 100000 in
theorem lifted (os : Os) (started : os.Started) (H : Type) (enc : TypeId × Value → H) :
    ReturnsInHanded {} Tryd.checked os 8 .any (fun w args => (Rows.crcTextSpec.pre enc Tryd.prog Tryd.f8 Rows.crcTextRow.domain false w args ∧ laidMetH Tryd.prog laidT w) ∧ sizedMet enc Tryd.prog Tryd.f8 (OpenSpec.ofChange Rows.crcTextSpec) false w args) (Rows.crcTextSpec.post enc Tryd.prog Tryd.f8 false true false false) := by
  refine returnsInHanded_of_change_and (C := Tryd.checked) (X := fun w _ => laidMetH Tryd.prog laidT w) (fun _ _ _ hh h => h.of_heap hh) own started (by kernel_rfl) Tryd.func8
    (ChangeSpec.witness_shaped (enc := enc) (C := Tryd.checked) (os := os) (X := fun w _ => laidMetH Tryd.prog laidT w) false (World.doorLaid Tryd.prog 400 os) #[.int .u32 0, .string ⟨#[]⟩] 8 rfl (World.shaped_of_RefB (by kernel_rfl) (by kernel_rfl)) (by kernel_rfl) (by kernel_rfl) (by kernel_rfl) (door_met os _)) ?_
  intro W base args ds gs before hval0 hW hcnd hsz0 hL _
  have hval : ∀ (j : Nat) t v, Tryd.f8.params[j]? = some t → args[j]? = some v → Value.okWide Tryd.prog W .any base t v := hval0
  have hW' := hW
  obtain ⟨p, q, hA0, hV, rfl, hfz, hnd⟩ := hW
  have hA : DataW.TrodAll enc Tryd.prog W 0 (fun _ => true) true Tryd.f8.params.toList args.toList ds p := hA0
  have hsz : (DataW.weightsEach Tryd.prog (Tryd.f8.params.toList ++ Rows.crcTextSpec.plain.varTypes Tryd.prog) (ds ++ gs)).all (· ≤ reachBytes) = true := hsz0
  rw [Tryd.params8] at hA hval hsz
  obtain ⟨v0, vs0, d0, ds0, p0, q0, hargs, rfl, rfl, h0, r0⟩ := trodAll_cons hA
  obtain ⟨v1, vs1, d1, ds1, p1, q1, rfl, rfl, rfl, h1, r1⟩ := trodAll_cons r0
  obtain ⟨rfl, rfl, rfl⟩ := trodAll_nil r1
  obtain rfl : args = #[v0, v1] := by cases args; simp_all
  obtain ⟨rfl, rfl⟩ := trodVars_none hV
  obtain ⟨a0, rfl, rfl, rfl, w0⟩ := open_int Tryd.underlying22 (hval 0 22 v0 rfl rfl) h0
  obtain ⟨a1, rfl, rfl, rfl, w1⟩ := ChangeMaps.open_string Tryd.underlying9 (hval 1 9 v1 rfl rfl) h1
  have z1 : a1.size ≤ 140737488351232 := by
    have hz := sized_string hsz (j := 1) (t := 9) rfl rfl
    have e1 : a1.size = a1.data.size := rfl
    have e2 : a1.data.toList.length = a1.data.size := Array.length_toList
    rw [show reachBytes = 140737488351232 from rfl] at hz
    omega
  clear hA0 hval0
  refine (walk a0 a1 W (bounds_u32 w0) w1 z1 (env_of_laid hL)).mono fun e W' ⟨he, bel⟩ => ?_
  subst he
  exact ⟨_, rfl, _, _, _, [], _, [], hW', trodAll_mk1 (shut_bool Tryd.underlying4 _), (trodAll_cons_mk (shut_int Tryd.underlying22 w0) (trodAll_cons_mk (ChangeMaps.shut_string Tryd.underlying9 w1) trodAll_mk0)), rfl, bel.frame _, fun h => by cases h⟩

theorem over : Rows.crcTextRow.holds Tryd.pinned (OpenSpec.ofChange Rows.crcTextSpec) :=
  OpenClaim.holds_of_wide 8 Tryd.f8 rfl rfl rfl rfl rfl rfl rfl ⟨rfl, rfl, rfl, rfl, rfl⟩ rfl rfl rfl rfl rfl (by kernel_rfl) Tryd.func8 (by kernel_rfl)
    (of_decide_eq_true (by kernel_rfl)) (by unfold Func.isWrapper; first | (rw [if_pos (by decide +kernel)]; kernel_rfl) | (rw [if_neg (by decide +kernel)]; exact ⟨rfl, rfl⟩))
    (fun os started H enc _ => lifted os started H enc)

theorem proved : Rows.CrcTextCardSaid :=
  Claim7.holds_tied_plain_at .later [] [.data, .data, .data, .sentinel, .sentinel] true Rows.crcTextCard.stood.harness true
    over (fun _ h => by cases h) (by kernel_rfl) (fun _ h => by cases h) crcText_row_tie rfl ⟨rfl, rfl⟩ (by kernel_rfl) rfl
    (fun f fn hf hfn => by
      obtain rfl : f = 8 := Option.some.inj ((show Tryd.prog.funcNamed "gambrel/gambrellaw13.CrcText" = some 8 by kernel_rfl).symm.trans hf) |>.symm
      obtain rfl : fn = Tryd.f8 := (Option.some.inj (Tryd.func8.symm.trans hfn)).symm
      exact ⟨by kernel_rfl, fun j t ht => by
        rw [Tryd.params8] at ht
        have hm : t ∈ [22, 9] := by simpa using Array.mem_of_getElem? ht
        have hall : ([22, 9].all fun u => !Tryd.prog.wantsStandIn u) = true := by kernel_rfl
        exact (show Tryd.prog.wantsStandIn t = false by simpa using List.all_eq_true.1 hall t hm)⟩)
    (by kernel_rfl)
end Go.Proofs.YtbhpfdikkknijaaDoor.crcText
