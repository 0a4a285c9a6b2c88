/- Layer 10: contracts of headOf, headIn and says, of slices.Grow of nothing, and of slices.Concat of rows of bytes. -/
import Derived.Test.YtalallkpejlclaaDoorLyc
import Derived.Test.YtalallkpejlclaaDoorGxv
import Derived.Lib.AppendZeros
namespace Go.Proofs.YtalallkpejlclaaDoor
open Go.RowKit

abbrev THd : Nat := 64
theorem size4 : (Tryd.prog.info? THd).map (·.size) = some (4 : Nat) := by kernel_rfl
/-- a head: four bytes -/
abbrev hd4 (a b c d : Nat) : Array Value := #[.int .u8 a, .int .u8 b, .int .u8 c, .int .u8 d]

set_option maxRecDepth 100000 in
theorem headOf37 (n : Nat) (hn : n ≤ 1000000) (w : World) : Calls Tryd.prog 37 #[.int .i64 n] w fun e w' => e = .returned (.agg (hd4 (n / 16777216 % 256) (n / 65536 % 256) (n / 256 % 256) (n % 256))) ∧ Below w.heap.size w w' := by
  go_enter Tryd.func37, Tryd.ntmps37
  go_wp2_with fail
  refine bodyPost_ret (results_cell_row rfl _ _ w.heap.size THd _ (0, 0) _ rfl (World.alloc_heap_new w _) Tryd.underlying64 rfl size4) rfl ?_
  refine ⟨?_, below_alloc w _⟩
  rw [show (n : Int) / 16777216 = ((n / 16777216 % 256 : Nat) : Int) by omega, show (n : Int) / 65536 = ((n / 65536 % 256 : Nat) : Int) by omega, show (n : Int) / 256 % 256 = ((n / 256 % 256 : Nat) : Int) by omega, show (n : Int) % 256 = ((n % 256 : Nat) : Int) by omega]

/-- four bytes, put together -/
theorem or_four (a b c d : Nat) (ha : a < 256) (hb : b < 256) (hc : c < 256) (hd : d < 256) :
    bits .or .i64 (bits .or .i64 (bits .or .i64 ((a : Int) * 16777216) ((b : Int) * 65536)) ((c : Int) * 256)) (d : Int) = ((((a * 256 + b) * 256 + c) * 256 + d : Nat) : Int) := by
  have e1 : a * 16777216 ||| b * 65536 = (a * 256 + b) * 65536 := by
    have := Nat.two_pow_add_eq_or_of_lt (i := 24) (b := b * 65536) (by omega) a
    rw [show a * 16777216 = 2 ^ 24 * a by omega, ← this]
    omega
  have e2 : (a * 256 + b) * 65536 ||| c * 256 = ((a * 256 + b) * 256 + c) * 256 := by
    have := Nat.two_pow_add_eq_or_of_lt (i := 16) (b := c * 256) (by omega) (a * 256 + b)
    rw [show (a * 256 + b) * 65536 = 2 ^ 16 * (a * 256 + b) by omega, ← this]
    omega
  have e3 : ((a * 256 + b) * 256 + c) * 256 ||| d = ((a * 256 + b) * 256 + c) * 256 + d := by
    have := Nat.two_pow_add_eq_or_of_lt (i := 8) (b := d) (by omega) ((a * 256 + b) * 256 + c)
    rw [show ((a * 256 + b) * 256 + c) * 256 = 2 ^ 8 * ((a * 256 + b) * 256 + c) by omega, ← this]
  rw [show (a : Int) * 16777216 = ((a * 16777216 : Nat) : Int) by omega, show (b : Int) * 65536 = ((b * 65536 : Nat) : Int) by omega, show (c : Int) * 256 = ((c * 256 : Nat) : Int) by omega,
    i64_or_nat _ _ (by omega) (by omega), e1, i64_or_nat _ _ (by omega) (by omega), e2, i64_or_nat _ _ (by omega) (by omega), e3]

set_option maxRecDepth 100000 in
theorem says31 (a b c d : Nat) (ha : a < 256) (hb : b < 256) (hc : c < 256) (hd : d < 256) (w : World) :
    Calls Tryd.prog 31 #[.agg (hd4 a b c d)] w fun e w' => e = .returned (.int .i64 (((a * 256 + b) * 256 + c) * 256 + d : Nat)) ∧ Below w.heap.size w w' := by
  go_enter Tryd.func31, Tryd.ntmps31
  have HE := Lib.hid (or_four a b c d ha hb hc hd)
  go_wp2_with fail
  go_ret
  exact ⟨by rw [← HE.out]; rfl, below_alloc w _⟩

/-- four bytes in a row -/
def fourF (c : Nat → Nat) (k : Nat) : Nat → Value := fun i => .int .u8 ((if i < k then c i else 0 : Nat))
theorem rowIs_agg4 {w : World} {g t : Nat} {c : Nat → Nat} (h : w.rowIs g t 4 (fourF c 4)) : w.heap[g]? = some (.cells (hd4 (c 0) (c 1) (c 2) (c 3)) t (0, 0)) := by
  obtain ⟨⟨l⟩, h1, h2, h3⟩ := h
  rw [h1]
  match l, h2 with
  | [a, b, c, d], _ =>
    have e0 := h3 0 (by omega)
    have e1 := h3 1 (by omega)
    have e2 := h3 2 (by omega)
    have e3 := h3 3 (by omega)
    simp [fourF] at e0 e1 e2 e3
    rw [e0, e1, e2, e3]
/-- in the loop of headIn -/
def HeadAt (c : Nat → Nat) (w : World) (s10 : Value) (wr : World) : Prop :=
  ∃ k : Nat, k ≤ 4 ∧ s10 = .int .i64 k ∧ wr.rowIs (w.heap.size + 1) THd 4 (fourF c k) ∧ wr.rowIs w.heap.size THd 4 (fourF c 0) ∧ Below w.heap.size w wr
theorem headAt_step {c : Nat → Nat} {w wr : World} {k : Nat} (hk : k < 4) (h1 : wr.rowIs (w.heap.size + 1) THd 4 (fourF c k)) (h2 : wr.rowIs w.heap.size THd 4 (fourF c 0)) (hb : Below w.heap.size w wr) :
    HeadAt c w (.int .i64 ((k : Int) + 1)) (wr.setCell ⟨w.heap.size + 1, k, none⟩ (.int .u8 (c k))).drew := by
  refine ⟨k + 1, hk, rfl, World.rowIs.drew ((h1.set k _).congr (fun i _ => ?_)), World.rowIs.drew (h2.setOther (by simp) _), (hb.setCell (p := ⟨w.heap.size + 1, k, none⟩) (by simp) _).drew⟩
  unfold fourF
  rcases Nat.lt_trichotomy i k with h | h | h
  · rw [if_neg (by omega), if_pos h, if_pos (by omega)]
  · subst h; rw [if_pos rfl, if_pos (by omega)]
  · rw [if_neg (by omega), if_neg (by omega), if_neg (by omega)]

set_option maxRecDepth 100000 in
set_option maxHeartbeats 1000000 in
theorem headIn30 (b : Nat) (F : Nat → Nat → Nat) (hF : ∀ r j, F r j < 256) (Ls : Nat → Nat) (A : Option Addr) (n c S : Nat) (h4 : 4 ≤ n * S) (hn : n ≤ 1000) (hS : S ≤ 1000000000) (w : World) (hr : Bx b w F Ls A n) (hl : ∀ r, r < n → Ls r = S) :
    Calls Tryd.prog 30 #[.slice A n c] w fun e w' => e = .returned (.agg (hd4 (catF S F 0) (catF S F 1) (catF S F 2) (catF S F 3))) ∧ Below w.heap.size w w' := by
  obtain ⟨As, Cs, hr1, hr2⟩ := hr
  have hn0 : 0 < n := by rcases Nat.eq_zero_or_pos n with h | h; subst h; omega; exact h
  have hS0 : 0 < S := by rcases Nat.eq_zero_or_pos S with h | h; subst h; omega; exact h
  obtain ⟨ad, rfl, hc0⟩ := hr1.at_ hn0
  rw [show ad.add 0 = ad by simp [Addr.add]] at hc0
  simp only [slis] at hc0
  rw [hl 0 hn0] at hc0
  have hadl := lt_of_cell hc0
  obtain ⟨v, hv⟩ : ∃ v, (w.alloc (.cells #[.int .u8 0, .int .u8 0, .int .u8 0, .int .u8 0] THd)).alloc (.cells #[.int .u8 0, .int .u8 0, .int .u8 0, .int .u8 0] THd) = v := ⟨_, rfl⟩
  have q1 : v.rowIs w.heap.size THd 4 (fourF (catF S F) 0) := by
    rw [← hv]
    exact (World.rowIs_alloc w _ THd _ (fun i hi => by simp at hi; match i, hi with | 0, _ => rfl | 1, _ => rfl | 2, _ => rfl | 3, _ => rfl)).alloc _
  have q2 : v.rowIs (w.heap.size + 1) THd 4 (fourF (catF S F) 0) := by
    rw [← hv]
    have := World.rowIs_alloc (w.alloc (.cells #[.int .u8 0, .int .u8 0, .int .u8 0, .int .u8 0] THd)) #[.int .u8 0, .int .u8 0, .int .u8 0, .int .u8 0] THd (fourF (catF S F) 0) (fun i hi => by simp at hi; match i, hi with | 0, _ => rfl | 1, _ => rfl | 2, _ => rfl | 3, _ => rfl)
    rwa [World.size_alloc] at this
  have hbv : Below w.heap.size w v := (two_boxes hv).2.2.2
  have HST := Lib.hid (show HeadAt (catF S F) w (.int .i64 0) v from ⟨0, by omega, rfl, q2, q1, hbv⟩)
  have hcv := (hbv.cell hadl).trans hc0
  have HR1 := Lib.hid hr1
  have HR2 := Lib.hid hr2
  have HL := Lib.hid hl
  have H4 := Lib.hid h4
  clear q1 q2 hbv hc0 hr1 hr2 hl h4
  go_enter Tryd.func30, Tryd.ntmps30
  go_wp2_with fail
  go_loopw [10] (fun s10 wr => HeadAt (catF S F) w s10 wr) (fun s10 _ => 4 - (intOf s10).toNat)
  case atStart => exact HST.out
  case round =>
    clear HST hcv
    obtain ⟨k, hk, rfl, q1, q2, hb⟩ := hrel
    by_cases hlt : k < 4
    · obtain ⟨hxn, hyS⟩ := row_lt (show k < n * S by have := H4.out; omega)
      have hcat : catF S F k = F (k / S) (k % S) := rfl
      obtain ⟨x, hx⟩ : ∃ x, k / S = x := ⟨_, rfl⟩
      obtain ⟨y, hy⟩ : ∃ y, k % S = y := ⟨_, rfl⟩
      have hx' : (k : Int) / (S : Int) = (x : Int) := by rw [← hx]; simp
      have hy' : (k : Int) % (S : Int) = (y : Int) := by rw [← hy]; simp
      rw [hx] at hxn hcat
      rw [hy] at hyS hcat
      obtain ⟨ad', e', c1⟩ := (HR1.out.below hb).at_ hxn
      injection e' with e'
      subst e'
      simp only [slis] at c1
      have hlx := HL.out x hxn
      obtain ⟨ad2, hA2, c2⟩ := ((HR2.out x hxn).below hb).at_ (show y < Ls x by omega)
      simp only [u8s] at c2
      rw [hlx, hA2] at c1
      have hu := hF x y
      rw [← hcat] at c2 hu
      have HS := Lib.hid (headAt_step hlt q1 q2 hb)
      have g1 := q1.cell (i := k) hlt
      have f1 := q1.frozen k
      obtain ⟨z, hz⟩ : ∃ z, catF S F k = z := ⟨_, rfl⟩
      rw [hz] at c2 hu HS
      have hS1 : ¬ (S : Int) = 0 := by omega
      clear hx hy hz hcat hlx hA2 q1 q2 hb
      go_wp2_with fail
      go_region
      all_goals
        go_wp2_with fail
        exact ⟨HS.out, by simp [intOf]; omega⟩
    · obtain rfl : k = 4 := by omega
      have c0 := q1.cell (i := 0) (by omega)
      have c1 := q1.cell (i := 1) (by omega)
      have c2 := q1.cell (i := 2) (by omega)
      have c3 := q1.cell (i := 3) (by omega)
      have d0 := q2.cell (i := 0) (by omega)
      have d1 := q2.cell (i := 1) (by omega)
      have d2 := q2.cell (i := 2) (by omega)
      have d3 := q2.cell (i := 3) (by omega)
      have f0 := q2.frozen 0
      have f1 := q2.frozen 1
      have f2 := q2.frozen 2
      have f3 := q2.frozen 3
      simp only [fourF] at c0 c1 c2 c3 d0 d1 d2 d3
      rw [if_pos (by omega)] at c0 c1 c2 c3
      rw [if_neg (by omega)] at d0 d1 d2 d3
      have HQ := Lib.hid q2
      have HB := Lib.hid hb
      obtain ⟨z0, hz0⟩ : ∃ z, catF S F 0 = z := ⟨_, rfl⟩
      obtain ⟨z1, hz1⟩ : ∃ z, catF S F 1 = z := ⟨_, rfl⟩
      obtain ⟨z2, hz2⟩ : ∃ z, catF S F 2 = z := ⟨_, rfl⟩
      obtain ⟨z3, hz3⟩ : ∃ z, catF S F 3 = z := ⟨_, rfl⟩
      have HZ := Lib.hid (And.intro hz0 (And.intro hz1 (And.intro hz2 hz3)))
      rw [hz0] at c0
      rw [hz1] at c1
      rw [hz2] at c2
      rw [hz3] at c3
      clear q1 q2 hb hz0 hz1 hz2 hz3
      go_wp2_with fail
      have RF := ((((HQ.out.set 0 (.int .u8 z0)).set 1 (.int .u8 z1)).set 2 (.int .u8 z2)).set 3 (.int .u8 z3)).congr (g := fourF (fun i => catF S F i) 4) (fun i hi => by
        obtain ⟨e0, e1, e2, e3⟩ := HZ.out
        match i, hi with
        | 0, _ => simp [fourF, e0]
        | 1, _ => simp [fourF, e1]
        | 2, _ => simp [fourF, e2]
        | 3, _ => simp [fourF, e3])
      have HE := Lib.hid ((((HB.out.setCell (p := ⟨w.heap.size, 0, none⟩) (Nat.le_refl _) (.int .u8 z0)).setCell (p := ⟨w.heap.size, 1, none⟩) (Nat.le_refl _) (.int .u8 z1)).setCell (p := ⟨w.heap.size, 2, none⟩) (Nat.le_refl _) (.int .u8 z2)).setCell (p := ⟨w.heap.size, 3, none⟩) (Nat.le_refl _) (.int .u8 z3))
      refine bodyPost_ret (results_cell_row rfl _ _ w.heap.size THd _ (0, 0) _ rfl (rowIs_agg4 RF) Tryd.underlying64 rfl size4) rfl ?_
      exact ⟨rfl, HE.out⟩

set_option maxRecDepth 100000 in
theorem underB : Tryd.prog.underlying TBs = some (.slice TB) := Tryd.underlying24
set_option maxHeartbeats 1000000 in
/-- Grow, of nothing -/
theorem grow38 (N : Nat) (h0 : 0 < N) (hN : N ≤ 1000000) (w : World) :
    Calls Tryd.prog 38 #[nilS, .int .i64 N] w fun e w' => ∃ v, e = .returned v ∧ w'.ownsRow w.heap.size TB 1 v 0 [] ∧ Below w.heap.size w w' := by
  obtain ⟨i0, hi, hz0, hz1, hz2⟩ := info_parts infoB
  have hrun := Lib.run_append_nil_zeros (P := Tryd.prog) w TBs 3 TBs TB i0 (.int .u8 0) .i64 .i64 underB Tryd.underlying3 hi hz0 N h0 (by omega) (by omega) (by rw [hz2]; omega)
  have hge := grownCap_ge w N 0 TB
  have hle := grownCap_le_maxLen w N 0 TB (by unfold maxLen; omega)
  obtain ⟨c, hc⟩ : ∃ c, grownCap w N 0 TB = c := ⟨_, rfl⟩
  obtain ⟨cur, hcur⟩ : ∃ cur, Builtin.zeroCells (Value.int .u8 0).cells N ++ Builtin.zeroCells (Value.int .u8 0).cells (grownCap w N 0 TB - N) = cur := ⟨_, rfl⟩
  have hsz : cur.size = c := by
    rw [← hcur, ← hc, Array.size_append, size_zeroCells, size_zeroCells]
    simp [Value.cells]
    omega
  rw [hcur, hc] at hrun
  rw [hc] at hge hle
  have HE : Hid ((w.drew.alloc (.cells cur TB)).ownsRow w.heap.size TB 1 (.slice (some ⟨w.heap.size, 0, none⟩) 0 c) 0 [] ∧ Below w.heap.size w (w.drew.alloc (.cells cur TB))) :=
    Lib.hid ⟨⟨rfl, Or.inr ⟨w.heap.size, c, cur, rfl, Nat.le_refl _, World.alloc_heap_new w.drew _, Nat.zero_le _, hle, by rw [hsz, Nat.mul_one], rfl⟩⟩, (Below.refl _ w).drew.alloc (Nat.le_refl _) _⟩
  clear hcur hc
  have HRUN := Lib.hid hrun
  clear hrun
  go_enter Tryd.func38, Tryd.ntmps38
  go_wp2_with (at_builtin; refine Lib.wpList_append_run _ rfl _ _ _ _ rfl _ _ rfl rfl _ _ HRUN.out ?_)
  go_ret
  exact ⟨_, rfl, HE.out⟩

theorem range_cat (f : Nat → Value) (n m : Nat) : (List.range (n + m)).map f = (List.range n).map f ++ (List.range m).map (fun j => f (n + j)) := by
  rw [List.range_add, List.map_append, List.map_map]
  rfl
theorem cat_step (F : Nat → Nat → Nat) (k S : Nat) : (List.range (k * S + S)).map (u8s (catF S F)) = (List.range (k * S)).map (u8s (catF S F)) ++ (List.range S).map (u8s (F k)) := by
  rw [range_cat]
  congr 1
  exact range_congr (fun j hj => by simp only [u8s]; rw [catF_at hj])
theorem one_u8s (f : Nat → Nat) (j : Nat) : (u8s f j).oneCell' = true := rfl

/-- in Concat's second loop -/
def ConAt (F : Nat → Nat → Nat) (S N : Nat) (w : World) (s6 s27 : Value) (wr : World) : Prop :=
  ∃ k : Nat, k ≤ N ∧ s27 = .int .i64 k ∧ App w TB (u8s (catF S F)) (k * S) s6 wr

set_option maxRecDepth 100000 in
set_option maxHeartbeats 2000000 in
theorem concat32 (b : Nat) (F : Nat → Nat → Nat) (Ls : Nat → Nat) (A : Option Addr) (N c S : Nat) (hN1 : 1 ≤ N) (hN : N ≤ 100) (hS1 : 1 ≤ S) (hS : S ≤ 10000) (w : World)
    (hr : Bx b w F Ls A N) (hl : ∀ r, r < N → Ls r = S) :
    Calls Tryd.prog 32 #[.slice A N c] w fun e w' => ∃ v, e = .returned v ∧ App w TB (u8s (catF S F)) (N * S) v w' := by
  obtain ⟨i0, hi, hz0, hz1, hz2⟩ := info_parts infoB
  obtain ⟨As, Cs, hr1, hr2⟩ := hr
  have hNS : 0 < N * S := Nat.mul_pos hN1 hS1
  have hmul : ∀ k, k ≤ N → k * S ≤ 1000000 := fun k hk => Nat.le_trans (Nat.mul_le_mul (Nat.le_trans hk hN) hS) (by omega)
  have HR := Lib.hid hr1
  have HRR := Lib.hid hr2
  have HL := Lib.hid hl
  have HMUL := Lib.hid hmul
  have HNS := Lib.hid hNS
  clear hr1 hr2 hl hmul hNS
  go_enter Tryd.func32, Tryd.ntmps32
  go_wp2_with fail
  go_loop [3, 11] (fun s3 s11 => ∃ k : Nat, k ≤ N ∧ s11 = .int .i64 k ∧ s3 = .int .i64 (k * S : Nat)) (fun _ s11 => N - (intOf s11).toNat)
  case atStart => exact ⟨0, Nat.zero_le _, rfl, by rw [Nat.zero_mul]; rfl⟩
  case round =>
    obtain ⟨k, hk, rfl, rfl⟩ := hrel
    by_cases hlt : k < N
    · obtain ⟨ad, rfl, hcell⟩ := HR.out.at_ hlt
      simp only [slis] at hcell
      rw [HL.out k hlt] at hcell
      have hb1 := HMUL.out k (by omega)
      have HC := Lib.hid (show (k + 1) * S = k * S + S by rw [Nat.add_mul, Nat.one_mul])
      obtain ⟨x, hx⟩ : ∃ x, k * S = x := ⟨_, rfl⟩
      rw [hx] at HC hb1 ⊢
      clear hx
      have hd : decide ((x : Int) + ((S : Nat) : Int) < 0) = false := by simp; omega
      go_wp2_with fail
      exact ⟨⟨k + 1, hlt, by go_num, by rw [HC.out]; go_num⟩, by simp [intOf]; omega⟩
    · obtain rfl : k = N := by omega
      have hb1 := HMUL.out k (Nat.le_refl _)
      have HGR := Lib.hid (fun w => grow38 (k * S) HNS.out hb1 w)
      obtain ⟨x, hx⟩ : ∃ x, k * S = x := ⟨_, rfl⟩
      rw [hx] at HGR hb1
      rw [hx]
      have HX := Lib.hid hx
      clear hx
      go_wp2_with fail
      refine (HGR.out _).mono ?_
      rintro e w1 ⟨v, rfl, hown, hb⟩
      have HST := Lib.hid (show ConAt F S k w v (.int .i64 (0 : Nat)) w1 from ⟨0, Nat.zero_le _, rfl, by rw [Nat.zero_mul]; exact hown, hb⟩)
      clear hown hb HGR
      go_wp2_with fail
      go_loopw [6, 27] (fun s6 s27 wr => ConAt F S k w s6 s27 wr) (fun _ s27 _ => k - (intOf s27).toNat)
      case atStart => exact HST.out
      case round =>
        clear HST
        obtain ⟨i, hi', rfl, happ⟩ := hrel
        have HAPP := Lib.hid happ
        have hsz := happ.2.size
        by_cases hlt2 : i < k
        · obtain ⟨ad, rfl, hcell⟩ := (HR.out.below happ.2).at_ hlt2
          simp only [slis] at hcell
          have hll := HL.out i hlt2
          have hrd := (HRR.out i hlt2).below happ.2
          rw [hll] at hcell hrd
          have HRD := Lib.hid hrd
          have HNN := Lib.hid (show As i = none → Cs i = 0 from fun h => by
            obtain ⟨_, e, _⟩ := hrd (by omega)
            rw [h] at e
            cases e)
          have hc1 := HMUL.out i (by omega)
          have HSUM := Lib.hid (show (i + 1) * S = i * S + S by rw [Nat.add_mul, Nat.one_mul])
          have HCS := Lib.hid (cat_step F i S)
          clear happ hll hrd
          go_wp2_with (at_builtin; refine append_rd _ rfl _ _ TBs rfl w.heap.size TB i0 (.int .u8 0) 1 underB hi hz0 hz1 hz2 rfl _ _ _ rfl HAPP.out.1 b _ _ _ _ rfl HNN.out HRD.out (one_u8s _) (by unfold maxLen; omega) (by omega) hsz ?_)
          intro v' w2 hown2 hgr
          have HS := Lib.hid (show ConAt F S k w v' (.int .i64 ((i : Int) + 1)) w2 from ⟨i + 1, by omega, rfl, by rw [HSUM.out, HCS.out]; exact hown2, HAPP.out.2.grown hgr hsz (fun q hq => (HAPP.out.1.lt q hq).1)⟩)
          clear hown2 hgr
          go_wp2_with fail
          exact ⟨HS.out, by simp [intOf]; omega⟩
        · obtain rfl : i = k := by omega
          clear happ
          go_wp2_with fail
          go_ret
          exact ⟨_, rfl, HAPP.out⟩
end Go.Proofs.YtalallkpejlclaaDoor
