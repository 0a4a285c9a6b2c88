/- The table tells of each byte what 0 is when it took that, and each step of sums is told by it. Condition: the package-level variables of the library which the row lists (strconv.ErrSyntax, strconv.ErrRange, internal/strconv.uint64pow10, math/bits.deBruijn32tab, math/bits.deBruijn64tab) hold, when the call begins, what the text of the library lays there; the card ties that to the text, over the pruned copy of the project that the seat holds. -/
import Derived.Test.YtbhpfdikkknijaaDoorRows
import Derived.Test.YtbhpfdikkknijaaDoorCrk
import Derived.Test.YtbhpfdikkknijaaDoorGxx
import Derived.Test.YtbhpfdikkknijaaDoorCro
import Derived.Test.YtbhpfdikkknijaaDoorCards
import Derived.Test.YtbhpfdikkknijaaDoorTie
import Derived.SevenTiedAt
import Derived.ChangeMaps5
import Derived.Deep.RegionHeld3
import Derived.WalkKit
import Derived.ProofKit
import Derived.OpenShut
import Derived.ShutString
import Derived.ChangeOld
import Derived.Below
namespace Go.Proofs.YtbhpfdikkknijaaDoor.crcTable
open Go.ChangeShapes Go.WideShapes Go.ChangeAt Go.RowKit
set_option linter.unusedVariables false

theorem own : ownKnob Tryd.prog.godebug = none := by kernel_rfl
theorem laidOut : laidOutB Tryd.prog = true := by kernel_rfl

set_option maxRecDepth 100000 in
set_option maxHeartbeats 8000000 in
theorem walk (a0 : Int) (a1 : Int) (w : World) (w0 : 0 ≤ a0 ∧ a0 ≤ 255) (w1 : 0 ≤ a1 ∧ a1 ≤ 4294967295) (hE : Env w) :
    Calls Tryd.prog 4 #[.int .u8 a0, .int .u32 a1] w fun e w' => e = .returned (.bool true) ∧ Below w.heap.size w w' := by
  obtain ⟨c, rfl⟩ : ∃ c : Nat, a0 = (c : Int) := ⟨a0.toNat, by omega⟩
  obtain ⟨s, rfl⟩ : ∃ s : Nat, a1 = (s : Int) := ⟨a1.toNat, by omega⟩
  have hs : s < 4294967296 := by omega
  have hc : c < 256 := by omega
  have HS := Lib.hid hs
  have hzv := zeroTa
  obtain ⟨z, hz⟩ : ∃ z, Array.replicate 256 (Value.int .u32 0) = z := ⟨_, rfl⟩
  rw [hz] at hzv
  have hst := store_tab_new z (by rw [← hz]; simp)
  have ht := tabA_size
  clear hz w0 w1
  go_enter Tryd.func4, Tryd.ntmps4
  go_wp2_with fail
  refine (awakeX w hE).mono ?_
  rintro e v1 ⟨rfl, hb1⟩
  have HB1 := Lib.hid hb1
  clear hb1
  go_wp2_with fail
  refine (tab10 v1).mono ?_
  rintro e v2 ⟨rfl, hb2⟩
  obtain ⟨v, hv⟩ : ∃ v, v2.alloc (.cells tabA TTa) = v := ⟨_, rfl⟩
  obtain ⟨k1, k2, k3⟩ := tab_box hv
  have HB := Lib.hid (below_tr (below_tr HB1.out hb2) k3)
  have hst1 := hst v2
  rw [hv] at hst1
  have hgl : v2.heap.size < v.heap.size := by rw [← hv, World.size_alloc]; omega
  obtain ⟨g, hg⟩ : ∃ g, v2.heap.size = g := ⟨_, rfl⟩
  obtain ⟨y, hy⟩ : ∃ y : Nat, (4294967295 : Int) - (s : Int) = (y : Int) := ⟨4294967295 - s, by omega⟩
  have hy2 : 4294967295 - s = y := by omega
  have hyl : y < 4294967296 := by omega
  have hC := ctk_table y c
  obtain ⟨q, hq⟩ : ∃ q : Nat, (y : Int) / 256 = (q : Int) := ⟨y / 256, by omega⟩
  obtain ⟨r, hr⟩ : ∃ r : Nat, (y : Int) % 256 = (r : Int) := ⟨y % 256, by omega⟩
  have hq2 : y / 256 = q := by omega
  have hr2 : y % 256 = r := by omega
  have hqb : q < 4294967296 := by omega
  have hrb : r < 256 := by omega
  rw [hq2, hr2] at hC
  have hx1 := u8_xor_nat r c hrb hc
  have hxb : r ^^^ c < 256 := Nat.xor_lt_two_pow (n := 8) hrb hc
  obtain ⟨x, hx⟩ : ∃ x, r ^^^ c = x := ⟨_, rfl⟩
  rw [hx] at hx1 hxb hC
  have hk := k1 x hxb
  have hkc := k1 c hc
  have h8 := cst8_lt (n := x) (by omega)
  obtain ⟨t, ht2⟩ : ∃ t, cst8 x = t := ⟨_, rfl⟩
  rw [ht2] at hk h8 hC
  have hx2 := u32_xor_nat q t hqb h8
  have hul : ctk y c < 4294967296 := by
    unfold ctk
    exact cst8_lt (Nat.xor_lt_two_pow (n := 32) hyl (by omega))
  obtain ⟨u, hu⟩ : ∃ u, ctk y c = u := ⟨_, rfl⟩
  rw [← hC, hu] at hx2
  obtain ⟨m, hm⟩ : ∃ m : Nat, (4294967295 : Int) - (u : Int) = (m : Int) := ⟨4294967295 - u, by omega⟩
  have hwr : IntKind.u32.wrap (m : Int) = (m : Int) := wrap32_n m (by omega)
  have HWR := Lib.hid hwr
  have hmo : moreF (fun _ => c) 1 s = m := by
    show 4294967295 - ctk (4294967295 - s) c = m
    rw [hy2, hu]
    omega
  have hone : ctk 0 c = cst8 c := by unfold ctk; rw [Nat.zero_xor]
  obtain ⟨tb, htb⟩ : ∃ tb, cst8 c = tb := ⟨_, rfl⟩
  rw [htb] at hkc hone
  have hxI : (x : Int) < 256 := by omega
  have hcI : (c : Int) < 256 := by omega
  have H1 := Lib.hid (fun w => rone15 c hc w)
  rw [hone] at H1
  have hd := k3.size
  have HM := Lib.hid (more12 (v.drew.heap.size + 1) s HS.out (fun _ => c) (fun _ => hc) (some ⟨v.drew.heap.size, 0, none⟩) 1 1 (by omega) (v.drew.alloc (.cells #[.int .u8 c] TB)) (Rd.of_row (t := TB) (World.rowIs_alloc v.drew #[.int .u8 c] TB (u8s (fun _ => c)) (fun i hi => by simp at hi; subst hi; rfl)) (by omega) (Nat.le_refl _)))
  rw [hmo] at HM
  have HKC := Lib.hid (show ∀ w', Below v.heap.size v w' → w'.cell? ⟨g, c, none⟩ = some (.int .u32 (tb : Nat)) from fun w' hb => (hb.cell (by simp; omega)).trans (by rw [← hg]; exact hkc))
  rw [hg] at hk hkc hst1
  have HXB := Lib.hid (And.intro hxb hc)
  have HD := Lib.hid (Below.refl v.heap.size v).drew
  have HDA := Lib.hid (show Below v.heap.size v (v.drew.alloc (.cells #[.int .u8 c] TB)) from (Below.refl v.heap.size v).drew.alloc (by simp) _)
  clear hwr hb2 k1 k2 k3 hst hy2 hyl hC hq2 hr2 hrb hx ht2 hu hmo hone htb hs hxb hul hqb h8 HS HB1
  go_wp2_with fail
  go_region_held3 (fun w' => w'.cell? ⟨g, c, none⟩ = some (.int .u32 (tb : Nat)))
    (first | exact hkc | exact HKC.out _ HD.out | exact HKC.out _ HDA.out | exact HKC.out _ (below_tr HDA.out hb3) | assumption)
    (first
      | (go_at_call 15; refine (H1.out _).mono ?_; rintro e w' ⟨rfl, rfl⟩)
      | (go_at_call 12; refine HM.out.mono ?_; rintro e w3 ⟨rfl, hb3⟩))
  have HE := Lib.hid (below_tr HB.out (below_tr HDA.out hb3))
  clear hb3 hst1 hk hkc HM H1 HKC HD HDA
  go_wp2_with fail
  go_ret
  exact ⟨by simp [HWR.out], HE.out⟩

set_option maxRecDepth 100000 in
theorem lifted (os : Os) (started : os.Started) (H : Type) (enc : TypeId × Value → H) :
    ReturnsInHanded {} Tryd.checked os 4 .any (fun w args => (Rows.crcTableSpec.pre enc Tryd.prog Tryd.f4 Rows.crcTableRow.domain false w args ∧ laidMetH Tryd.prog laidT w) ∧ sizedMet enc Tryd.prog Tryd.f4 (OpenSpec.ofChange Rows.crcTableSpec) false w args) (Rows.crcTableSpec.post enc Tryd.prog Tryd.f4 false true false false) := by
  refine returnsInHanded_of_change_and (C := Tryd.checked) (X := fun w _ => laidMetH Tryd.prog laidT w) (fun _ _ _ hh h => h.of_heap hh) own started (by kernel_rfl) Tryd.func4
    (ChangeSpec.witness_shaped (enc := enc) (C := Tryd.checked) (os := os) (X := fun w _ => laidMetH Tryd.prog laidT w) false (World.doorLaid Tryd.prog 400 os) #[.int .u8 0, .int .u32 0] 8 rfl (World.shaped_of_RefB (by kernel_rfl) (by kernel_rfl)) (by kernel_rfl) (by kernel_rfl) (by kernel_rfl) (door_met os _)) ?_
  intro W base args ds gs before hval0 hW hcnd _ hL _
  have hval : ∀ (j : Nat) t v, Tryd.f4.params[j]? = some t → args[j]? = some v → Value.okWide Tryd.prog W .any base t v := hval0
  have hW' := hW
  obtain ⟨p, q, hA0, hV, rfl, hfz, hnd⟩ := hW
  have hA : DataW.TrodAll enc Tryd.prog W 0 (fun _ => true) true Tryd.f4.params.toList args.toList ds p := hA0
  rw [Tryd.params4] at hA hval
  obtain ⟨v0, vs0, d0, ds0, p0, q0, hargs, rfl, rfl, h0, r0⟩ := trodAll_cons hA
  obtain ⟨v1, vs1, d1, ds1, p1, q1, rfl, rfl, rfl, h1, r1⟩ := trodAll_cons r0
  obtain ⟨rfl, rfl, rfl⟩ := trodAll_nil r1
  obtain rfl : args = #[v0, v1] := by cases args; simp_all
  obtain ⟨rfl, rfl⟩ := trodVars_none hV
  obtain ⟨a0, rfl, rfl, rfl, w0⟩ := open_int Tryd.underlying5 (hval 0 5 v0 rfl rfl) h0
  obtain ⟨a1, rfl, rfl, rfl, w1⟩ := open_int Tryd.underlying22 (hval 1 22 v1 rfl rfl) h1
  clear hA0 hval0
  refine (walk a0 a1 W (bounds_u8 w0) (bounds_u32 w1) (env_of_laid hL)).mono fun e W' ⟨he, bel⟩ => ?_
  subst he
  exact ⟨_, rfl, _, _, _, [], _, [], hW', trodAll_mk1 (shut_bool Tryd.underlying4 _), (trodAll_cons_mk (shut_int Tryd.underlying5 w0) (trodAll_cons_mk (shut_int Tryd.underlying22 w1) trodAll_mk0)), rfl, bel.frame _, fun h => by cases h⟩

theorem over : Rows.crcTableRow.holds Tryd.pinned (OpenSpec.ofChange Rows.crcTableSpec) :=
  OpenClaim.holds_of_wide 4 Tryd.f4 rfl rfl rfl rfl rfl rfl rfl ⟨rfl, rfl, rfl, rfl, rfl⟩ rfl rfl rfl rfl rfl (by kernel_rfl) Tryd.func4 (by kernel_rfl)
    (of_decide_eq_true (by kernel_rfl)) (by unfold Func.isWrapper; first | (rw [if_pos (by decide +kernel)]; kernel_rfl) | (rw [if_neg (by decide +kernel)]; exact ⟨rfl, rfl⟩))
    (fun os started H enc _ => lifted os started H enc)

theorem proved : Rows.CrcTableCardSaid :=
  Claim7.holds_tied_plain_at .later [] [.data, .data, .data, .sentinel, .sentinel] true Rows.crcTableCard.stood.harness true
    over (fun _ h => by cases h) (by kernel_rfl) (fun _ h => by cases h) crcTable_row_tie rfl ⟨rfl, rfl⟩ (by kernel_rfl) rfl
    (fun f fn hf hfn => by
      obtain rfl : f = 4 := Option.some.inj ((show Tryd.prog.funcNamed "gambrel/gambrellaw13.CrcTable" = some 4 by kernel_rfl).symm.trans hf) |>.symm
      obtain rfl : fn = Tryd.f4 := (Option.some.inj (Tryd.func4.symm.trans hfn)).symm
      exact ⟨by kernel_rfl, fun j t ht => by
        rw [Tryd.params4] at ht
        have hm : t ∈ [5, 22] := by simpa using Array.mem_of_getElem? ht
        have hall : ([5, 22].all fun u => !Tryd.prog.wantsStandIn u) = true := by kernel_rfl
        exact (show Tryd.prog.wantsStandIn t = false by simpa using List.all_eq_true.1 hall t hm)⟩)
    (by kernel_rfl)
end Go.Proofs.YtbhpfdikkknijaaDoor.crcTable
