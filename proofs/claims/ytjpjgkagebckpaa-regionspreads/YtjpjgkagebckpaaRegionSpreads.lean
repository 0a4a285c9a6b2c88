/- Proved: for either field, any two numbers of 16 bits and any bytes the law RegionSpreads answers true (a product of a sum is the sum of the products; a product by a product is one behind the other; by 1 nothing changes), and its arguments read as they did. No conditions. -/
import Derived.Test.YtjpjgkagebckpaaRows
import Derived.Test.YtjpjgkagebckpaaRgi
import Derived.Test.YtjpjgkagebckpaaRgy
import Derived.Test.YtjpjgkagebckpaaArr
import Derived.Test.YtjpjgkagebckpaaRgx
import Derived.Deep.RegionHeld3
import Derived.WalkKit
import Derived.ProofKit
import Derived.OpenShut
import Derived.ShutString
import Derived.ChangeOld
import Derived.Below
namespace Go.Proofs.Ytjpjgkagebckpaa.regionSpreads
open Go.ChangeShapes Go.WideShapes Go.ChangeAt Go.RowKit
set_option linter.unusedVariables false

theorem own : ownKnob Try.prog.godebug = none := by kernel_rfl
theorem laidOut : laidOutB Try.prog = true := by kernel_rfl
theorem cells16 : Try.prog.cellsOf 52 = 1 := by kernel_rfl
theorem cells2 : Try.prog.cellsOf 54 = 2 := by kernel_rfl

/-- a slice of integers that came in: nil, or a row of numbers -/
def IsRow (k : IntKind) (w : World) (a : Option Addr) (len cap : Nat) (zs : List Int) : Prop :=
  (a = none ∧ len = 0 ∧ cap = 0 ∧ zs = []) ∨
  ∃ x, a = some x ∧ len ≤ cap ∧ cap ≤ maxLen ∧ zs.length = cap ∧ (∀ i, i < zs.length → w.cell? (x.add i) = some (.int k (zs.getD i 0))) ∧ ∀ n ∈ zs, (Lit.int k n).wf = true

theorem mod_in {n c : Int} (n0 : 0 ≤ n) (n1 : n ≤ 65535) : (IntKind.i64.wrap n).tmod c = n % c := by
  rw [show IntKind.i64.wrap n = n by rw [IntKind.wrap_i64]; omega, Int.tmod_eq_emod_of_nonneg n0]

/-- what is there stays, whatever is made -/
theorem keepS {p b wd n m : Nat} {v w w' : World} {k : Nat → Nat} {A : Option Addr} (hb : Below m w w') (hm : m = w.heap.size) (h : Live p b wd v w ∧ Rd b w (u8s k) A n) : Live p b wd v w' ∧ Rd b w' (u8s k) A n := by
  subst hm
  exact ⟨h.1.below hb, h.2.below hb⟩

set_option maxRecDepth 100000 in
set_option maxHeartbeats 4000000 in
theorem walk (a0 : Bool) (n0 n1 : Int) (a2 : Option Addr) (len2 cap2 : Nat) (z2 : List Int) (w : World) (x0 : 0 ≤ n0) (x1 : n0 ≤ 65535) (y0 : 0 ≤ n1) (y1 : n1 ≤ 65535) (w2 : IsRow .u8 w a2 len2 cap2 z2) :
    Calls Try.prog 6 #[.bool a0, .agg #[.int .u16 n0, .int .u16 n1], .slice a2 len2 cap2] w fun e w' => e = .returned (.bool true) ∧ Below w.heap.size w w' := by
  obtain ⟨hc2, f, hf, hr2⟩ := rd_bytes w2
  have HR2 := Lib.hid hr2
  clear w2 hr2
  go_enter Try.func6, Try.ntmps6
  go_wp2_with fail
  have HW0 := Lib.hid (show Below w.heap.size w (w.alloc (.cells #[.int .u16 n0, .int .u16 n1] 54)) from (Below.refl _ _).alloc (Nat.le_refl _) _)
  have g0 : (w.alloc (.cells #[.int .u16 n0, .int .u16 n1] 54)).cell? ⟨w.heap.size, 0, none⟩ = some (.int .u16 n0) := by simp
  have g1 : (w.alloc (.cells #[.int .u16 n0, .int .u16 n1] 54)).cell? ⟨w.heap.size, 1, none⟩ = some (.int .u16 n1) := by simp
  have gz : w.heap.size < (w.alloc (.cells #[.int .u16 n0, .int .u16 n1] 54)).heap.size := by simp
  generalize w.alloc (.cells #[.int .u16 n0, .int .u16 n1] 54) = v at *
  have G1 := Lib.hid g1
  clear g1
  refine (awakeR _).mono ?_
  rintro e w1 ⟨rfl, hb1⟩
  have H1 := Lib.hid hb1
  clear hb1
  by_cases b1 : 200 < len2
  · go_wp2_with fail
    go_ret
    exact ⟨rfl, HW0.out.trans (H1.out.mono (Nat.le_of_lt gz))⟩
  have hq : (len2 : Int) % 4 = 0 ∨ (len2 : Int) % 4 = 1 ∨ (len2 : Int) % 4 = 2 ∨ (len2 : Int) % 4 = 3 := by omega
  rcases hq with b2 | b2 | b2 | b2
  rotate_left
  · go_wp2_with fail
    go_ret
    exact ⟨rfl, HW0.out.trans (H1.out.mono (Nat.le_of_lt gz))⟩
  · go_wp2_with fail
    go_ret
    exact ⟨rfl, HW0.out.trans (H1.out.mono (Nat.le_of_lt gz))⟩
  · go_wp2_with fail
    go_ret
    exact ⟨rfl, HW0.out.trans (H1.out.mono (Nat.le_of_lt gz))⟩
  go_wp2_with fail
  refine (field10 _ _).mono ?_
  rintro e w2 ⟨p, wd, n, b, hw, rfl, hF, hn, hb2⟩
  have hg := hF.1
  have hL := Live.start H1.out hF hn hb2
  have hbl := hF.lt
  have hlow : w.heap.size ≤ b := Nat.le_trans (Nat.le_of_lt gz) hL.2.2
  have R2 := Lib.hid (((HR2.out b hlow).turned (Turned.of_below HW0.out)).turned (Turned.of_below hL.2.1))
  have HW := Lib.hid hw
  have hwb := hw.bounds
  have hk := hw.kind
  have lc := hF.c0
  have l0 := (hL.cell (q := ⟨w.heap.size, 0, none⟩) gz).trans g0
  clear hF hn hb2 H1 HR2 hw g0 hlow
  have hz : ((M.ord p : Int) + 1 == 0) = false := by simp; omega
  have hz' : (M.ord p : Int) + 1 ≠ 0 := by omega
  go_wp2_with fail
  go_region_held3 (fun w' => w'.cell? ⟨w.heap.size, 0, none⟩ = some (.int .u16 n0) ∧ w'.cell? ⟨b, 0, none⟩ = some (.int .i64 wd) ∧ Live p b wd v w' ∧ Rd b w' (u8s f) a2 len2)
    (first | exact ⟨l0, lc, hL.drew, R2.out.drew⟩ | assumption)
    ((go_at_call 25; refine (size13 b wd _ hk _ ?_).mono ?_; (simp [*]); rintro e w' ⟨rfl, rfl⟩))
  rename_i hh0
  rw [mod_in x0 x1]
  clear l0 lc hL R2
  obtain ⟨_, lc, hL, hR⟩ := hh0
  have l1 := (hL.cell (q := ⟨w.heap.size, 1, none⟩) gz).trans G1.out
  have ha0 := Int.emod_nonneg n0 hz'
  have ha1 := Int.emod_lt_of_pos n0 (show (0 : Int) < (M.ord p : Int) + 1 by omega)
  generalize n0 % ((M.ord p : Int) + 1) = x at *
  have R2 := Lib.hid hR
  clear hR
  go_wp2_with fail
  go_region_held3 (fun w' => w'.cell? ⟨w.heap.size, 1, none⟩ = some (.int .u16 n1) ∧ w'.cell? ⟨b, 0, none⟩ = some (.int .i64 wd) ∧ Live p b wd v w' ∧ Rd b w' (u8s f) a2 len2)
    (first | exact ⟨l1, lc, hL.drew, R2.out.drew⟩ | assumption)
    ((go_at_call 25; refine (size13 b wd _ hk _ ?_).mono ?_; (simp [*]); rintro e w' ⟨rfl, rfl⟩))
  rename_i hh1
  rw [mod_in y0 y1]
  clear l1 lc hL R2
  obtain ⟨_, _, hL, hR⟩ := hh1
  have hb0 := Int.emod_nonneg n1 hz'
  have hb1 := Int.emod_lt_of_pos n1 (show (0 : Int) < (M.ord p : Int) + 1 by omega)
  generalize n1 % ((M.ord p : Int) + 1) = y at *
  generalize w2.drew.drew = w3 at *
  have HL := Lib.hid hL
  have hbl3 := hL.1.lt
  have R3 := Lib.hid hR
  clear hL hR hz hz' hbl G1
  obtain ⟨h, hh⟩ : ∃ h : Nat, len2 = 2 * h := ⟨len2 / 2, by omega⟩
  have hhd : (len2 : Int) / 2 = h := by omega
  have hhn : (len2 : Int) - h = h := by omega
  have hhl : h ≤ 100 := by omega
  have hhc : h ≤ cap2 := by omega
  have hh2 : h ≤ len2 := by omega
  have HH := Lib.hid hh
  have hsl := run_atB a2 len2 cap2 h hh2
  have hsf := run_fromB a2 len2 cap2 h hh2
  obtain ⟨A2, hA2⟩ : ∃ A2, (if cap2 = h then a2 else a2.map (·.add h)) = A2 := ⟨_, rfl⟩
  obtain ⟨C2, hC2⟩ : ∃ C2, cap2 - h = C2 := ⟨_, rfl⟩
  have hD2 : len2 - h = h := by omega
  rw [hA2, hC2, hD2] at hsl hsf
  have HA2 := Lib.hid hA2
  have HC2 := Lib.hid hC2
  clear hA2 hC2 hD2 hh
  obtain ⟨fV, hfV⟩ : ∃ fV : Nat → Nat, (fun j => f (h + j)) = fV := ⟨_, rfl⟩
  have hV : ∀ j, fV j < 256 := fun j => by rw [← hfV]; exact hf _
  have HUV := Lib.hid (show ∀ w' : World, Rd b w' (u8s f) a2 len2 → Rd b w' (u8s f) a2 h ∧ Rd b w' (u8s fV) A2 h from fun w' hr => ⟨hr.take hh2, by
    have := hr.cut (i := h) hh2 hc2
    rw [HA2.out, show len2 - h = h by have := HH.out; omega] at this
    rw [← hfV]
    exact this⟩)
  have HLN := Lib.hid (show h = n * (h / n) ∧ h / n ≤ 100000 ∧ len2 = n * (len2 / n) ∧ len2 / n ≤ 100000 by
    have h1 := Nat.div_le_self h n
    have h2 := Nat.div_le_self len2 n
    have h3 := HH.out
    refine ⟨?_, by omega, ?_, by omega⟩
    · rcases HW.out with ⟨_, rfl, _⟩ | ⟨_, rfl, _⟩ <;> omega
    · rcases HW.out with ⟨_, rfl, _⟩ | ⟨_, rfl, _⟩ <;> omega)
  clear hfV HH HA2 HC2 b2
  have hx1 : x ≤ M.ord p := by omega
  have hy1 : y ≤ M.ord p := by omega
  go_wp2_with fail
  go_region_held3 (fun _ => True)
    (trivial)
    ((go_at_call 23; refine (add_yes b f fV hf hV a2 A2 h cap2 C2 (by omega) w3.drew hbl3 (HUV.out _ R3.out.drew).1 (HUV.out _ R3.out.drew).2).mono ?_; rintro e w4 ⟨v4, rfl, A4, c4, rfl, hc4, hrd4, hb4⟩))
  have HL4 := Lib.hid (HL.out.drew.below hb4)
  have R4 := Lib.hid (R3.out.drew.below hb4)
  have S4 := Lib.hid hrd4
  clear hrd4 hb4 HL R3 hbl3
  go_wp2_with fail
  refine (mul_yes p b wd n HW.out x ha0 hx1 (fun i => f i ^^^ fV i) (fun j => Nat.xor_lt_two_pow (n := 8) (hf j) (hV j)) A4 (h / n) h c4 HLN.out.1 HLN.out.2.1 _ HL4.out.1 S4.out).mono ?_
  rintro e w5 ⟨g5, rfl, _, hrd5, hF5, hT5⟩
  have HL5 := Lib.hid (HL4.out.next hF5 hT5)
  have R5 := Lib.hid (R4.out.turned hT5)
  have X5 := Lib.hid hrd5
  clear hrd5 hF5 hT5 HL4 R4 S4
  go_wp2_with fail
  refine (mul_yes p b wd n HW.out x ha0 hx1 f hf a2 (h / n) h cap2 HLN.out.1 HLN.out.2.1 _ HL5.out.1 (HUV.out _ R5.out).1).mono ?_
  rintro e w6 ⟨g6, rfl, _, hrd6, hF6, hT6⟩
  have HL6 := Lib.hid (HL5.out.next hF6 hT6)
  have R6 := Lib.hid (R5.out.turned hT6)
  have X6 := Lib.hid (X5.out.turned hT6)
  have P6 := Lib.hid hrd6
  clear hrd6 hF6 hT6 HL5 R5 X5
  go_wp2_with fail
  refine (mul_yes p b wd n HW.out x ha0 hx1 fV hV A2 (h / n) h C2 HLN.out.1 HLN.out.2.1 _ HL6.out.1 (HUV.out _ R6.out).2).mono ?_
  rintro e w7 ⟨g7, rfl, _, hrd7, hF7, hT7⟩
  have HL7 := Lib.hid (HL6.out.next hF7 hT7)
  have hbl7 := hF7.lt
  have R7 := Lib.hid (R6.out.turned hT7)
  have X7 := Lib.hid (X6.out.turned hT7)
  have P7 := Lib.hid (P6.out.turned hT7)
  have Q7 := Lib.hid hrd7
  clear hrd7 hF7 hT7 HL6 R6 X6 P6
  go_wp2_with fail
  refine (add_yes b _ _ (mulB_lt p n x f) (mulB_lt p n x fV) _ _ h h h (by omega) _ hbl7 P7.out Q7.out).mono ?_
  rintro e w8 ⟨v8, rfl, A8, c8, rfl, _, hrd8, hb8⟩
  have HL8 := Lib.hid (HL7.out.below hb8)
  have R8 := Lib.hid (R7.out.below hb8)
  have X8 := Lib.hid (X7.out.below hb8)
  have P8 := Lib.hid (P7.out.below hb8)
  have Y8 := Lib.hid hrd8
  clear hrd8 hb8 HL7 R7 X7 P7 Q7 hbl7
  go_wp2_with fail
  refine (mul_yes p b wd n HW.out y hb0 hy1 _ (mulB_lt p n x f) _ (h / n) h h HLN.out.1 HLN.out.2.1 _ HL8.out.1 P8.out).mono ?_
  rintro e w9 ⟨g9, rfl, _, hrd9, hF9, hT9⟩
  have HL9 := Lib.hid (HL8.out.next hF9 hT9)
  have R9 := Lib.hid (R8.out.turned hT9)
  have X9 := Lib.hid (X8.out.turned hT9)
  have Y9 := Lib.hid (Y8.out.turned hT9)
  have T9 := Lib.hid hrd9
  clear hrd9 hF9 hT9 HL8 R8 X8 Y8 P8
  go_wp2_with fail
  go_region_held3 (fun _ => True)
    (trivial)
    (first
      | (go_at_call 26; refine (fmul12 p b wd x y w9.drew HL9.out.drew.1).mono ?_; rintro e w10 ⟨rfl, hF10, hT10⟩)
      | (go_at_call 21; refine (mul_yes p b wd n HW.out (fmul p x y) (fmul_le hg x y).1 (fmul_le hg x y).2 f hf a2 (h / n) h cap2 HLN.out.1 HLN.out.2.1 w10 hF10 (HUV.out _ (R9.out.drew.turned hT10)).1).mono ?_; rintro e w11 ⟨g11, rfl, hn11, hrd11, hF11, hT11⟩))
  have hT := hT10.trans hT11
  have HLB := Lib.hid (HL9.out.drew.next hF11 hT)
  have RB := Lib.hid (R9.out.drew.turned hT)
  have XB := Lib.hid (X9.out.drew.turned hT)
  have YB := Lib.hid (Y9.out.drew.turned hT)
  have TB' := Lib.hid (T9.out.drew.turned hT)
  have UB := Lib.hid hrd11
  clear hrd11 hF11 hT11 hF10 hT10 HL9 R9 X9 Y9 T9 hn11 hT
  go_wp2_with fail
  refine (mul_yes p b wd n HW.out 1 (by omega) (by omega) f hf a2 (len2 / n) len2 cap2 HLN.out.2.2.1 HLN.out.2.2.2 _ HLB.out.1 RB.out).mono ?_
  rintro e wC ⟨gC, rfl, _, hrdC, hFC, hTC⟩
  have HLC := Lib.hid (HLB.out.next hFC hTC)
  have RC := Lib.hid (RB.out.turned hTC)
  have XC := Lib.hid (XB.out.turned hTC)
  have YC := Lib.hid (YB.out.turned hTC)
  have TC := Lib.hid (TB'.out.turned hTC)
  have UC := Lib.hid (UB.out.turned hTC)
  have OC := Lib.hid hrdC
  clear hrdC hFC hTC HLB RB XB YB TB' UB
  go_wp2_with fail
  refine (same17 b b _ _ _ A8 h h c8 _ XC.out YC.out (fun j _ => mulB_xor hg HW.out ha0 hx1 hf hV j)).mono ?_
  rintro e w' ⟨rfl, rfl⟩
  go_wp2_with fail
  refine (same17 b b _ _ _ _ h h h _ TC.out UC.out (fun j _ => by rw [mulB_prod hg HW.out ha0 hx1 hb0 hy1 hf])).mono ?_
  rintro e w' ⟨rfl, rfl⟩
  go_wp2_with fail
  refine (same17 b b _ f _ a2 len2 len2 cap2 _ OC.out RC.out (fun j _ => mulB_one hg HW.out hf j)).mono ?_
  rintro e w' ⟨rfl, rfl⟩
  go_wp2_with fail
  go_ret
  exact ⟨rfl, HW0.out.trans (HLC.out.2.1.mono (Nat.le_of_lt gz))⟩

set_option maxRecDepth 100000 in
theorem lifted (os : Os) (started : os.Started) (H : Type) (enc : TypeId × Value → H) :
    ReturnsInHanded {} Try.checked os 6 .any (Rows.regionSpreadsSpec.pre6 enc Try.prog Try.f6 Rows.regionSpreadsRow.domain false) (Rows.regionSpreadsSpec.post enc Try.prog Try.f6 false true false false) := by
  refine returnsInHanded_of_change (C := Try.checked) own started (by kernel_rfl) Try.func6
    (ChangeSpec.witness6 (enc := enc) (C := Try.checked) false ⟨#[], #[.bool false, .agg #[.int .u16 0, .int .u16 0], .slice none 0 0], []⟩ 8 (by kernel_rfl) (by kernel_rfl) (by kernel_rfl) (by kernel_rfl)) ?_
  intro W base args ds gs before hval0 hW hcnd _
  have hval : ∀ (j : Nat) t v, Try.f6.params[j]? = some t → args[j]? = some v → Value.okWide Try.prog W .any base t v := hval0
  have hW' := hW
  obtain ⟨p, q, hA0, hV, rfl, hfz, hnd⟩ := hW
  have hA : DataW.TrodAll enc Try.prog W 0 (fun _ => true) true Try.f6.params.toList args.toList ds p := hA0
  rw [Try.params6] at hA hval
  obtain ⟨v0, vs0, d0, ds0, p0, q0, hargs, rfl, rfl, h0, r0⟩ := trodAll_cons hA
  obtain ⟨v1, vs1, d1, ds1, p1, q1, rfl, rfl, rfl, h1, r1⟩ := trodAll_cons r0
  obtain ⟨v2, vs2, d2, ds2, p2, q2, rfl, rfl, rfl, h2, r2⟩ := trodAll_cons r1
  obtain ⟨rfl, rfl, rfl⟩ := trodAll_nil r2
  obtain rfl : args = #[v0, v1, v2] := by cases args; simp_all
  obtain ⟨rfl, rfl⟩ := trodVars_none hV
  obtain ⟨a0, rfl, rfl, rfl⟩ := open_bool Try.underlying4 (hval 0 4 v0 rfl rfl) h0
  obtain ⟨cs, rfl, hsz, _⟩ : ∃ cs, v1 = .agg cs ∧ cs.size = Try.prog.cellsOf 54 ∧ Row.okWide Try.prog W .any base 54 cs := by
    have := hval 1 54 v1 rfl rfl
    simpa [Value.okWide, Try.underlying54] using this
  rw [cells2] at hsz
  obtain ⟨l⟩ := cs
  obtain ⟨e0, e1, rfl⟩ := list2 l hsz
  have k1 := h1
  have lt1 : ∀ x ∈ p1, x.block < W.heap.size := by obtain ⟨m, hm⟩ := k1; exact DataW.trod_lt m _ _ _ hm
  obtain ⟨fuel1, hf1⟩ := h1
  obtain ⟨m, y0, y1, hy0, hy1⟩ := two_cells Try.underlying54 cells16 hf1
  obtain ⟨x0, f0, rfl, wx0⟩ := DataW.trod_int Try.underlying52 hy0
  obtain ⟨x1, f1, rfl, wx1⟩ := DataW.trod_int Try.underlying52 hy1
  simp at f0 f1
  subst f0 f1
  obtain ⟨b00, b01⟩ := bounds_u16 wx0
  obtain ⟨b10, b11⟩ := bounds_u16 wx1
  obtain ⟨a2, len2, cap2, rfl⟩ := okWide_slice Try.underlying22 (hval 2 22 v2 rfl rfl)
  have k2 := h2
  have lt2 : ∀ x ∈ p2, x.block < W.heap.size := by obtain ⟨m, hm⟩ := k2; exact DataW.trod_lt m _ _ _ hm
  obtain ⟨z2, w2⟩ : ∃ zs, IsRow .u8 W a2 len2 cap2 zs := by
    obtain ⟨fuel, hf⟩ := h2
    rcases open_ints Try.underlying22 Try.underlying5 (by kernel_rfl) hf with ⟨hcs, _⟩ | ⟨x, l, c, zs, hcs, _, hl, hm, hz, _, hcell, hwz⟩
    · simp [Value.cells] at hcs
      obtain ⟨rfl, rfl, rfl⟩ := hcs
      exact ⟨[], .inl ⟨rfl, rfl, rfl, rfl⟩⟩
    · simp [Value.cells] at hcs
      obtain ⟨rfl, rfl, rfl⟩ := hcs
      exact ⟨zs, .inr ⟨_, rfl, hl, hm, by simpa using hz, hcell, hwz⟩⟩
  clear hA0 hval0
  refine (walk a0 x0 x1 a2 len2 cap2 z2 W b00 b01 b10 b11 w2).mono fun e W' ⟨he, bel⟩ => ?_
  subst he
  exact ⟨_, rfl, _, _, _, [], _, [], hW', trodAll_mk1 (shut_bool Try.underlying4 _), (trodAll_cons_mk (shut_bool Try.underlying4 _) (trodAll_cons_mk (Below.trod laidOut (by kernel_rfl) (of_decide_eq_true (by kernel_rfl)) k1 bel lt1) (trodAll_cons_mk (Below.trod laidOut (by kernel_rfl) (of_decide_eq_true (by kernel_rfl)) k2 bel lt2) trodAll_mk0))), rfl, bel.frame _, fun h => by cases h⟩

theorem over : Rows.regionSpreadsRow.holds Try.pinned (OpenSpec.ofChange Rows.regionSpreadsSpec) :=
  OpenClaim.holds_of_wide 6 Try.f6 rfl rfl rfl rfl rfl rfl rfl ⟨rfl, rfl, rfl, rfl, rfl⟩ rfl rfl rfl rfl rfl (by kernel_rfl) Try.func6 (by kernel_rfl)
    (of_decide_eq_true (by kernel_rfl)) (by unfold Func.isWrapper; first | (rw [if_pos (by decide +kernel)]; kernel_rfl) | (rw [if_neg (by decide +kernel)]; exact ⟨rfl, rfl⟩))
    (fun os started H enc _ => lifted os started H enc)

theorem proved : Rows.RegionSpreadsSaid := over
end Go.Proofs.Ytjpjgkagebckpaa.regionSpreads
