/- Layer 13: contract of Table. -/
import Derived.Test.YtbhpfdikkknijaaDoorCre
import Derived.BigQuiet
import Derived.Deep.RegionWith
namespace Go.Proofs.YtbhpfdikkknijaaDoor
open Go.RowKit

set_option maxRecDepth 100000 in
theorem cstep22 (n : Nat) (h : n < 4294967296) (w : World) : Calls Tryd.prog 22 #[.int .u32 n] w fun e w' => e = .returned (.int .u32 (cstp n : Nat)) ∧ w = w' := by
  obtain ⟨q, hq⟩ : ∃ q : Nat, (n : Int) / 2 = (q : Int) := ⟨n / 2, by omega⟩
  have hq2 : q = n / 2 := by omega
  have hqb : q < 2147483648 := by omega
  by_cases h1 : n % 2 = 1
  · have hm : (n : Int) % 2 = 1 := by omega
    have hx := u32_xor_nat q 3988292384 (by omega) (by omega)
    have he : cstp n = q ^^^ 3988292384 := by unfold cstp; rw [if_pos h1, hq2]
    obtain ⟨z, hz⟩ : ∃ z, q ^^^ 3988292384 = z := ⟨_, rfl⟩
    rw [hz] at hx he
    have HE := Lib.hid he
    have hx' : bits .xor .u32 (q : Int) 3988292384 = (z : Int) := hx
    clear hq2 hz he h1 hx
    go_enter Tryd.func22, Tryd.ntmps22
    go_wp2_with fail
    go_ret
    exact ⟨by rw [HE.out]; rfl, rfl⟩
  · have hm : (n : Int) % 2 = 0 := by omega
    have he : cstp n = q := by unfold cstp; rw [if_neg h1, hq2]
    have HE := Lib.hid he
    clear hq2 he h1
    go_enter Tryd.func22, Tryd.ntmps22
    go_wp2_with fail
    go_ret
    exact ⟨by rw [HE.out]; rfl, rfl⟩

set_option maxRecDepth 100000 in
theorem below_row {g : Nat} {w : World} {B : Nat} (h : B ≤ g) (cs : Array Value) : Below B w (w.setRow g cs) := ⟨rfl, rfl, rfl, by simp [World.setRow], fun q hq => setRow_other w g q _ (by omega)⟩
set_option maxHeartbeats 1000000 in
theorem tab10 (w : World) : Calls Tryd.prog 14 #[] w fun e w' => e = .returned (.agg tabA) ∧ Below w.heap.size w w' := by
  have hzv := zeroTa
  obtain ⟨z, hz⟩ : ∃ z, Array.replicate 256 (Value.int .u32 0) = z := ⟨_, rfl⟩
  rw [hz] at hzv
  obtain ⟨v, hv⟩ : ∃ v, (w.alloc (.cells z TTa)).alloc (.cells z TTa) = v := ⟨_, rfl⟩
  have HS := Lib.hid (tab_start w z hz hv)
  clear hz
  go_enter Tryd.func14, Tryd.ntmps14
  go_wp2_with fail
  go_loopw [4] (fun s4 wr => TabAt w.heap.size w s4 wr) (fun s4 _ => 256 - (intOf s4).toNat)
  case atStart => exact HS.out
  case round =>
    clear hv HS
    obtain ⟨k, hk, rfl, q1, q2, hb⟩ := hrel
    by_cases hlt : k < 256
    · have f1 := q1.frozen k
      have g1 := q1.cell (i := k) hlt
      have hltI : (k : Int) < 256 := by omega
      have HQ := Lib.hid (fun x hx => tabAt_step hlt (x := x) hx q1 q2 hb)
      have HL := Lib.hid (fun i => cstN_lt (show k < 4294967296 by omega) i)
      have H8 := Lib.hid (show cst8 k = cstN 8 k from rfl)
      clear q1 q2 hb
      go_wp2_with fail
      go_loop [3, 9] (fun s3 s9 => ∃ i : Nat, i ≤ 8 ∧ s9 = .int .i64 i ∧ s3 = .int .u32 (cstN i k : Nat)) (fun _ s9 => 8 - (intOf s9).toNat)
      case atStart => exact ⟨0, Nat.zero_le _, rfl, rfl⟩
      case round =>
        obtain ⟨i, hi, rfl, rfl⟩ := hrel
        by_cases hlt8 : i < 8
        · have hd : (i : Int) < 8 := by omega
          have hl := HL.out i
          obtain ⟨y, hy⟩ : ∃ y, cstN i k = y := ⟨_, rfl⟩
          rw [hy] at hl ⊢
          have HY := Lib.hid (show cstp y = cstN (i + 1) k by rw [← hy]; rfl)
          clear hy
          go_wp2_with fail
          refine (cstep22 y hl _).mono ?_
          rintro e w' ⟨rfl, rfl⟩
          rw [HY.out]
          go_wp2_with fail
          exact ⟨⟨i + 1, hlt8, by go_num, rfl⟩, by simp [intOf]; omega⟩
        · obtain rfl : i = 8 := by omega
          rw [← H8.out]
          go_wp2_with fail
          exact ⟨HQ.out _ rfl, by simp [intOf]; omega⟩
    · obtain rfl : k = 256 := by omega
      have HB := Lib.hid hb
      have HQ2 := Lib.hid q2
      have c1 := Lib.hid (rowIs_tab q1)
      obtain ⟨old, o1, o2, o3⟩ := q2
      have ht := tabA_size
      have hst := store_tab o1 o2
      clear hb o2 o3
      go_wp2_with (refine wpList_load_row rfl TTa _ rfl (w.heap.size + 1) rfl TTa _ (0, 0) _ c1.out Tryd.underlying28 rfl sizeTa ?_)
      go_wp2_with fail
      refine bodyPost_ret (results_cell_row rfl _ _ w.heap.size TTa tabA (0, 0) _ rfl (setRow_heap _ _ _ _ _ _ o1) Tryd.underlying28 rfl sizeTa) rfl ?_
      exact ⟨rfl, HB.out.trans (below_row (Nat.le_refl _) _)⟩

set_option maxRecDepth 100000 in
theorem u32_not (n : Nat) (h : n < 4294967296) : bits .xor .u32 IntKind.u32.max (n : Int) = ((4294967295 - n : Nat) : Int) := by
  have := u32_xor_nat 4294967295 n (by omega) h
  rw [← crc_comp h] at this
  exact this
theorem turn20 (g n : Nat) (h : n < 4294967296) (w : World) (hc : w.cell? ⟨g, 0, none⟩ = some (.int .u32 (n : Nat))) (hz : w.frozen? ⟨g, 0, none⟩ = false) :
    Calls Tryd.prog 20 #[.pointer (some ⟨g, 0, none⟩)] w fun e w' => e = .returned (.tuple #[]) ∧ w.setCell ⟨g, 0, none⟩ (.int .u32 (4294967295 - n : Nat)) = w' := by
  have hx := u32_not n h
  obtain ⟨x, hxx⟩ : ∃ x : Nat, 4294967295 - n = x := ⟨_, rfl⟩
  rw [hxx] at hx ⊢
  have hsg : IntKind.u32.signed = false := rfl
  go_enter Tryd.func20, Tryd.ntmps20
  go_wp2_with fail
  go_end0
  exact ⟨rfl, rfl⟩

/-- a number in a box of its own -/
def nW (v : World) (y : Nat) : World := v.alloc (.cells #[.int .u32 (y : Nat)] 22)
theorem nW_cell (v : World) (y : Nat) : (nW v y).cell? ⟨v.heap.size, 0, none⟩ = some (.int .u32 (y : Nat)) := box_at (one_box (w := v) rfl).2.1 rfl
theorem nW_frozen (v : World) (y : Nat) : (nW v y).frozen? ⟨v.heap.size, 0, none⟩ = false := by
  have h := World.rowIs_alloc v #[.int .u32 (y : Nat)] 22 (fun _ => .int .u32 (y : Nat)) (fun i hi => by simp at hi; subst hi; rfl)
  exact h.frozen 0
theorem nW_set (v : World) (y z : Nat) : (nW v y).setCell ⟨v.heap.size, 0, none⟩ (.int .u32 (z : Nat)) = nW v z := by
  unfold nW
  have e : ∀ (a : Array Obj) (o : Obj) (f : Obj → Obj), (a.push o).modify a.size f = a.push (f o) := fun a o f => by
    apply Array.ext
    · simp
    · intro i h1 h2
      rw [Array.getElem_modify, Array.getElem_push, Array.getElem_push]
      by_cases h : i = a.size
      · subst h; simp
      · rw [if_neg (fun h5 => h h5.symm)]
        simp at h1
        rw [dif_pos (by omega), dif_pos (by omega)]
  show World.mk _ _ _ _ _ = World.mk _ _ _ _ _
  congr 1
  exact e _ _ _
theorem nW_below (v : World) (y : Nat) : Below v.heap.size v (nW v y) := below_alloc v _
theorem nD_below (v : World) (j y : Nat) : Below v.heap.size v (nW (v.drewN j) y) := below_tr (below_drewN' v j) (nW_below (v.drewN j) y)
theorem nD_cell (v : World) (j y : Nat) : (nW (v.drewN j) y).cell? ⟨v.heap.size, 0, none⟩ = some (.int .u32 (y : Nat)) := nW_cell (v.drewN j) y
theorem nD_frozen (v : World) (j y : Nat) : (nW (v.drewN j) y).frozen? ⟨v.heap.size, 0, none⟩ = false := nW_frozen (v.drewN j) y
theorem nD_set (v : World) (j y z : Nat) : (nW (v.drewN j) y).setCell ⟨v.heap.size, 0, none⟩ (.int .u32 (z : Nat)) = nW (v.drewN j) z := nW_set (v.drewN j) y z
theorem nD_drew (v : World) (j y : Nat) : (nW (v.drewN j) y).drew = nW (v.drewN (j + 1)) y := rfl

set_option maxRecDepth 100000 in
set_option maxHeartbeats 1000000 in
theorem more12 (b : Nat) (s : Nat) (hs : s < 4294967296) (f : Nat → Nat) (hf : ∀ j, f j < 256) (A : Option Addr) (n c : Nat) (hn : n ≤ 1000000000) (w : World) (hr : Rd b w (u8s f) A n) :
    Calls Tryd.prog 12 #[.int .u32 s, .slice A n c] w fun e w' => e = .returned (.int .u32 (moreF f n s : Nat)) ∧ Below w.heap.size w w' := by
  have HR := Lib.hid hr
  have HF := Lib.hid hf
  have HS := Lib.hid hs
  clear hr hf hs
  have hzv := zeroTa
  obtain ⟨z, hz⟩ : ∃ z, Array.replicate 256 (Value.int .u32 0) = z := ⟨_, rfl⟩
  rw [hz] at hzv
  have hst := store_tab_new z (by rw [← hz]; simp)
  have ht := tabA_size
  clear hz
  go_enter Tryd.func12, Tryd.ntmps12
  go_wp2_with fail
  refine (tab10 _).mono ?_
  rintro e w1 ⟨rfl, hb1⟩
  obtain ⟨v, hv⟩ : ∃ v, w1.alloc (.cells tabA TTa) = v := ⟨_, rfl⟩
  obtain ⟨k1, k2, k3⟩ := tab_box hv
  have HB := Lib.hid (hb1.trans (k3.mono hb1.size))
  have HK := Lib.hid k1
  have hst1 := hst w1
  rw [hv] at hst1
  have HX := Lib.hid ((HR.out.below hb1).below k3)
  obtain ⟨y0, hy0⟩ : ∃ y0, 4294967295 - s = y0 := ⟨_, rfl⟩
  have hyl : y0 < 4294967296 := by omega
  have HL := Lib.hid (fun i => crun_lt HF.out hyl i)
  have HE := Lib.hid (show moreF f n s = 4294967295 - crun f n y0 by unfold moreF; rw [hy0])
  clear hb1 k1 k2 k3 hst hyl
  have HC := Lib.hid (turn20 v.heap.size s HS.out (nW v s) (nW_cell v s) (nW_frozen v s))
  rw [hy0, nW_set] at HC
  have HT := Lib.hid (fun j y (hy : y < 4294967296) => turn20 v.heap.size y hy (nW (v.drewN j) y) (nD_cell v j y) (nD_frozen v j y))
  have hg : w1.heap.size < v.heap.size := by rw [← hv, World.size_alloc]; omega
  have HKW := Lib.hid (fun j y x (hx : x < 256) => ((nD_below v j y).cell (p := ⟨w1.heap.size, x, none⟩) hg).trans (HK.out x hx))
  have HXW := Lib.hid (fun j y => HX.out.below (nD_below v j y))
  clear hy0
  go_wp2_with fail
  refine HC.out.mono ?_
  rintro e w' ⟨rfl, rfl⟩
  clear hst1 hzv hv HC
  go_wp2_with fail
  go_loopw [17] (fun s17 wr => ∃ i j : Nat, i ≤ n ∧ s17 = .int .i64 i ∧ wr = nW (v.drewN j) (crun f i y0)) (fun s17 _ => n - (intOf s17).toNat)
  case atStart => exact ⟨0, 0, Nat.zero_le _, rfl, rfl⟩
  case round =>
    obtain ⟨i, j, hi, rfl, rfl⟩ := hrel
    have hyl := HL.out i
    have HC := Lib.hid (show crun f (i + 1) y0 = crun f i y0 / 256 ^^^ cst8 (crun f i y0 % 256 ^^^ f i) from ctk_table _ _)
    obtain ⟨y, hy⟩ : ∃ y, crun f i y0 = y := ⟨_, rfl⟩
    by_cases hlt : i < n
    · rw [hy] at hyl HC ⊢
      obtain ⟨ad, rfl, c1⟩ := (HXW.out j y).at_ hlt
      simp only [u8s] at c1
      have hc := HF.out i
      obtain ⟨ch, hch⟩ : ∃ ch, f i = ch := ⟨_, rfl⟩
      rw [hch] at hc HC c1
      obtain ⟨q, hq⟩ : ∃ q : Nat, (y : Int) / 256 = (q : Int) := ⟨y / 256, by omega⟩
      obtain ⟨r, hr⟩ : ∃ r : Nat, (y : Int) % 256 = (r : Int) := ⟨y % 256, by omega⟩
      have hw8 : IntKind.u8.wrap (y : Int) = (r : Int) := by rw [IntKind.wrap_u8]; exact hr
      have hq2 : y / 256 = q := by omega
      have hr2 : y % 256 = r := by omega
      have hqb : q < 4294967296 := by omega
      have hrb : r < 256 := by omega
      rw [hq2, hr2] at HC
      have hx1 := u8_xor_nat r ch hrb hc
      have hxb : r ^^^ ch < 256 := Nat.xor_lt_two_pow (n := 8) hrb hc
      obtain ⟨x, hx⟩ : ∃ x, r ^^^ ch = x := ⟨_, rfl⟩
      rw [hx] at hx1 hxb HC
      have hk := HKW.out j y x hxb
      have h8 := cst8_lt (n := x) (by omega)
      obtain ⟨t, ht2⟩ : ∃ t, cst8 x = t := ⟨_, rfl⟩
      rw [ht2] at hk h8 HC
      have hx2 := u32_xor_nat q t hqb h8
      rw [← HC.out] at hx2
      have hltI : (i : Int) < (n : Int) := by omega
      have hxI : (x : Int) < 256 := by omega
      have hxJ : 0 ≤ (x : Int) ∧ (x : Int) < 256 := by omega
      have hyc := nD_cell v j y
      have hyf := nD_frozen v j y
      have HST := Lib.hid (nD_set v j y)
      obtain ⟨u, hu⟩ : ∃ u, crun f (i + 1) y0 = u := ⟨_, rfl⟩
      rw [hu] at hx2
      have HU := Lib.hid hu
      obtain ⟨W, hW⟩ : ∃ W, nW (v.drewN j) y = W := ⟨_, rfl⟩
      rw [hW] at c1 hk hyc hyf HST ⊢
      clear hq2 hr2 hx ht2 hy hW hu
      go_wp2_with fail
      go_region_with (fail)
      all_goals (
        go_wp2_with fail
        exact ⟨⟨i + 1, j + 1, hlt, by go_num, by rw [HU.out, ← nD_drew, ← HST.out]⟩, by simp [intOf]; omega⟩)
    · obtain rfl : i = n := by omega
      have HT2 := Lib.hid (HT.out j y (by rw [← hy]; exact hyl))
      rw [nD_set] at HT2
      have HE2 := Lib.hid (show 4294967295 - y = moreF f i s by rw [HE.out, hy])
      have HB2 := Lib.hid (show Below w.heap.size w (nW (v.drewN j) (4294967295 - y)) from below_tr HB.out (nD_below v j _))
      have hyc := nD_cell v j (4294967295 - y)
      rw [hy]
      rw [HE2.out] at HT2 HB2 hyc
      clear hy hyl
      go_wp2_with fail
      refine HT2.out.mono ?_
      rintro e w' ⟨rfl, rfl⟩
      go_wp2_with fail
      go_ret
      exact ⟨rfl, HB2.out⟩
theorem csum10 (b : Nat) (f : Nat → Nat) (hf : ∀ j, f j < 256) (A : Option Addr) (n c : Nat) (hn : n ≤ 1000000000) (w : World) (hr : Rd b w (u8s f) A n) :
    Calls Tryd.prog 10 #[.slice A n c] w fun e w' => e = .returned (.int .u32 (moreF f n 0 : Nat)) ∧ Below w.heap.size w w' := by
  have HC := Lib.hid (more12 b 0 (by omega) f hf A n c hn w hr)
  clear hr hf
  go_enter Tryd.func10, Tryd.ntmps10
  go_wp2_with fail
  refine HC.out.mono ?_
  rintro e w' ⟨rfl, hb⟩
  go_wp2_with fail
  go_ret
  exact ⟨rfl, hb⟩
end Go.Proofs.YtbhpfdikkknijaaDoor
