/- The contract of package jvan's Parity. -/
import Derived.Test.YtgcochamjicjiaaGreatJvc
namespace Go.Proofs.YtgcochamjicjiaaGreat
open Go.RowKit

theorem elemM : Tryz.prog.elem TM = TIs := by kernel_rfl
theorem sizeIs (w : World) : (sizeOf TIs).run Tryz.prog w = .ok 1 w := by
  obtain ⟨i0, hi, _, hz1, _⟩ := info_parts infoRow
  simp [sizeOf, typeInfo, hi, hz1]
theorem run_fromM (a : Option Addr) (len cap k : Nat) (hk : k ≤ len) (w : World) : (Instr.slice TM (.slice a len cap) (some (.int .i64 k)) none none).run Tryz.prog w = .ok (.slice (if cap = k then a else a.map (·.add k)) (len - k) (cap - k)) w := by
  have hu : Tryz.prog.underlying TM = some (.slice (Tryz.prog.elem TM)) := by rw [elemM]; exact underM'
  rw [run_slice_l w TM a len cap hu .i64 k (by omega) (by omega), elemM, sizeIs]
  simp [Result.andThen, sliced]
theorem run_atM (a : Option Addr) (len cap k : Nat) (hk : k ≤ len) (w : World) : (Instr.sliceAt TM (.slice a len cap) (some (.int .i64 k)) none none).run Tryz.prog w = .ok (.slice (if cap = k then a else a.map (·.add k)) (len - k) (cap - k)) w := by
  have hu : Tryz.prog.underlying TM = some (.slice (Tryz.prog.elem TM)) := by rw [elemM]; exact underM'
  rw [run_sliceAt_slice w TM _ _ _ _ hu, run_fromM a len cap k hk]
theorem Mx.cut {b : Nat} {w : World} {F : Nat → Nat → Int} {Ls : Nat → Nat} {A : Option Addr} {n k cap : Nat} (h : Mx b w F Ls A n) (hk : k ≤ n) (hc : n ≤ cap) :
    Mx b w (fun r => F (k + r)) (fun r => Ls (k + r)) (if cap = k then A else A.map (·.add k)) (n - k) := by
  obtain ⟨As, Cs, h1, h2⟩ := h
  exact ⟨fun r => As (k + r), fun r => Cs (k + r), h1.cut hk hc, fun r hr => h2 (k + r) (by omega)⟩

/-- the rows that Mul tells may be written -/
theorem mid_grid {q : FP} {b wd n k m : Nat} {A B : Option Addr} {ca cb : Nat} {X Y : Nat → Nat → El q} {w W : World} (h : Mid q.p b wd n k A B ca cb (ivs X) (ivs Y) w (fun _ => m) W) (hm : 0 < m) :
    ∃ gs Cs, Fld q.p b wd W ∧ Turned b w W ∧ Grid n m (w.heap.size + 2) gs Cs (mm k X Y) W ∧ ∀ r, r < n → w.heap.size ≤ gs r := by
  obtain ⟨V, h⟩ := h
  have hv : ∀ r, ∃ g c : Nat, r < n → V r = .slice (some ⟨g, 0, none⟩) m c ∧ w.heap.size + 5 ≤ g ∧ m ≤ c ∧ ∃ T, W.rowIs g TI c T ∧ ∀ j, j < m → T j = .int .i64 ((mm k X Y r j).val : Nat) := fun r => by
    by_cases hr : r < n
    · obtain ⟨g, c, T, e1, e2, e3, e4, e5⟩ := own_row (h.own r hr) hm
      refine ⟨g, c, fun _ => ⟨e1, e2, e3, T, e4, fun j hj => ?_⟩⟩
      rw [e5 j (i64s (mulF q.p (ivs X) (ivs Y) k r) j) (by rw [List.getElem?_map, List.getElem?_range hj]; rfl), mulF_ivs]
    · exact ⟨0, 0, fun h => absurd h hr⟩
  obtain ⟨gs, hgs⟩ : ∃ gs : Nat → Nat, ∀ r, ∃ c : Nat, r < n → V r = .slice (some ⟨gs r, 0, none⟩) m c ∧ w.heap.size + 5 ≤ gs r ∧ m ≤ c ∧ ∃ T, W.rowIs (gs r) TI c T ∧ ∀ j, j < m → T j = .int .i64 ((mm k X Y r j).val : Nat) := ⟨fun r => Classical.choose (hv r), fun r => Classical.choose_spec (hv r)⟩
  obtain ⟨Cs, hCs⟩ : ∃ Cs : Nat → Nat, ∀ r, r < n → V r = .slice (some ⟨gs r, 0, none⟩) m (Cs r) ∧ w.heap.size + 5 ≤ gs r ∧ m ≤ Cs r ∧ ∃ T, W.rowIs (gs r) TI (Cs r) T ∧ ∀ j, j < m → T j = .int .i64 ((mm k X Y r j).val : Nat) := ⟨fun r => Classical.choose (hgs r), fun r => Classical.choose_spec (hgs r)⟩
  refine ⟨gs, Cs, h.fld, h.turned, ⟨h.row.congr (fun r hr => (hCs r hr).1), fun r hr => (hCs r hr).2.2.2, fun r s hr hs e => ?_, fun r hr => (hCs r hr).2.2.1⟩, fun r hr => by have := (hCs r hr).2.1; omega⟩
  by_cases hne : r = s
  · exact hne
  · rcases h.apart r s hr hs hne with h1 | h1
    · rw [(hCs r hr).1] at h1
      cases h1
    · rw [(hCs r hr).1, (hCs s hs).1] at h1
      exact absurd (by simp only [Value.ownBlock]; rw [e]) h1

set_option maxRecDepth 100000 in
set_option maxHeartbeats 4000000 in
theorem jpar_yes (q : FP) (b wd k m : Nat) (hk : side k) (hm : side m) (hkm : k + m ≤ 20) (w : World) (hf : Fld q.p b wd w) :
    Calls Tryz.prog 12 #[.pointer (some ⟨b, 0, none⟩), .int .i64 k, .int .i64 m] w (VSaid q b wd m k (parE q k (k + m)) w) := by
  have hkd := hf.1.kind
  have hkb := hkd.bounds
  have hn1 := hk.1
  have hn2 := hk.2
  have hm1 := hm.1
  have hm2 := hm.2
  have HR := Lib.hid (jext_yes q b wd k m hk hm hkm w hf)
  have HG := Lib.hid (show ∀ i, i < m → ∀ j, j < k → jG q k (k + m) i j ≠ 0 from fun i hi j hj => sysJ_ne (by omega) (by omega) (by omega) hj)
  have HFU := Lib.hid (ext_full (q := q) (k := k) (N := k + m) (by omega) (by omega))
  have HSD := Lib.hid hk
  have HSM := Lib.hid hm
  clear hf hk hm
  go_enter Tryz.func12, Tryz.ntmps12
  go_wp2_with fail
  refine HR.out.mono ?_
  rintro e w2 ⟨A, c, rfl, hc, hx, hf2, ht2⟩
  have HX := Lib.hid hx
  have HT2 := Lib.hid ht2
  have hkc : k ≤ c := by omega
  have HI := Lib.hid (inverse12 q b wd k (fun _ => k) (ivs (extE q k (k + m))) A c w2 hf2 (hx.take (by omega)))
  obtain ⟨N, hN⟩ : ∃ N, k + m = N := ⟨_, rfl⟩
  have HN := Lib.hid hN
  have hkN : k ≤ N := by omega
  have hNc : N ≤ c := by omega
  rw [hN] at HX HI HFU HG ⊢
  clear hx hf2 ht2 HR hc hN
  go_wp2_with fail
  refine HI.out.mono ?_
  rintro e w3 ⟨s, t, A3, c3, rfl, hs, ht, _, hx3, hf3, ht3⟩
  obtain rfl : s = true := hs.2 ⟨ivs_may _ HSD.out HSD.out, rfl⟩
  rw [elM_ivs] at ht hx3
  obtain rfl : t = true := (ht rfl).2 HFU.out
  rw [show err2 true true = 0 from rfl]
  simp only [Bool.and_self, cond] at hx3 ⊢
  have hfr := run_fromM A N c k hkN
  have hat := run_atM A N c k hkN
  have HC := Lib.hid ((HX.out.turned ht3).cut (k := k) (cap := c) hkN hNc)
  obtain ⟨A', hA'⟩ : ∃ A', (if c = k then A else A.map (·.add k)) = A' := ⟨_, rfl⟩
  rw [hA'] at hfr HC
  simp only [hA'] at hat
  have hNk : N - k = m := by have := HN.out; omega
  rw [hNk] at hfr HC
  simp only [hNk] at hat
  have HF3 := Lib.hid hf3
  have HT3 := Lib.hid (HT2.out.trans ht3)
  have HMU := Lib.hid (mmul_mid q.p b wd (ivs (fun r j => extE q k N (k + r) j)) (ivs (ivm k (extE q k N))) A' A3 m k k (c - k) c3 w3 hf3 HC.out hx3 (ivs_may _ HSM.out HSD.out) (ivs_may _ HSD.out HSD.out))
  have hbl := hf3.lt
  clear hs ht hx3 hf3 ht3 HI HT2 HX HC hA' hNk hkc
  go_wp2_with fail
  refine HMU.out.mono ?_
  rintro e w4 ⟨rfl, hM⟩
  obtain ⟨gs, Cs, hf4, ht4, hG4, hl4⟩ := mid_grid hM (show 0 < k by omega)
  have hG4 : Grid m k (w3.heap.size + 2) gs Cs (jG q k N) w4 := hG4
  have hgl : w3.heap.size ≤ w3.heap.size + 2 := by omega
  have HP := Lib.hid (show ∀ w', Turned b w3 w' → Turned b w w' from fun w' h => HT3.out.trans h)
  obtain ⟨g, hg⟩ : ∃ g, w3.heap.size + 2 = g := ⟨_, rfl⟩
  rw [hg] at hG4 hgl ⊢
  have hb5 := below_alloc w4 (.cells #[.pointer (some ⟨b, 0, none⟩), .slice (some ⟨g, 0, none⟩) m m] TD)
  have hr5 := World.rowIs_alloc w4 #[.pointer (some ⟨b, 0, none⟩), .slice (some ⟨g, 0, none⟩) m m] TD (fun x => if x = 0 then .pointer (some ⟨b, 0, none⟩) else .slice (some ⟨g, 0, none⟩) m m) (fun x hx => by
    simp at hx
    match x, hx with
    | 0, _ => rfl
    | 1, _ => rfl)
  obtain ⟨w5, hw5⟩ : ∃ w5, w4.alloc (.cells #[.pointer (some ⟨b, 0, none⟩), .slice (some ⟨g, 0, none⟩) m m] TD) = w5 := ⟨_, rfl⟩
  rw [hw5] at hb5 hr5
  have hD5 : Dvd q b wd m k g w4.heap.size (fun x => if x = 0 then .pointer (some ⟨b, 0, none⟩) else .slice (some ⟨g, 0, none⟩) m m) gs Cs (jG q k N) w3 w5 :=
    ⟨hf4.of_below hb5, ht4.trans (Turned.of_below hb5), hbl, hG4.of_blocks (hb5.block _ hG4.out.lt) (fun r hr => by
      obtain ⟨T, t1, _⟩ := hG4.row r hr
      exact hb5.block _ t1.lt), hgl, hl4, hr5, by have := hf4.lt; omega⟩
  have HD5 := Lib.hid hD5
  have b0 := hr5.cell (i := 0) (by simp)
  have b1 := hr5.cell (i := 1) (by simp)
  rw [if_pos rfl] at b0
  rw [if_neg (by omega)] at b1
  have hmf : ∀ (fn : Fn) (first cap : Array Value) (w : World), (Instr.makeFunc fn first cap).run Tryz.prog w = .ok (.func fn first cap) w := fun _ _ _ _ => rfl
  clear hM hf4 ht4 hG4 hl4 HMU hfr hat hr5 hb5 hD5 hg hgl HT3 HF3
  go_wp2_with fail
  refine (each_col q b wd m k g m w4.heap.size _ gs Cs (jG q k N) w3 _ (by omega) (by omega) (by omega) (fun j hj => HG.out 0 (by omega) j hj) HD5.out).mono ?_
  rintro e w6 ⟨rfl, h6⟩
  have HD6 := Lib.hid h6
  have d0 := h6.box.cell (i := 0) (by omega)
  have d1 := h6.box.cell (i := 1) (by omega)
  rw [if_pos rfl] at d0
  rw [if_neg (by omega)] at d1
  clear h6 b0 b1 HD5 hw5
  go_wp2_with fail
  refine (each_row q b wd m k g m w4.heap.size _ gs Cs (colE (jG q k N)) w3 _ (by omega) (by omega) (by omega) (by omega) (fun i hi => col_ne (HG.out i hi 0 (by omega)) (HG.out 0 (by omega) 0 (by omega))) (fun j hj => row_same (HG.out 0 (by omega) 0 (by omega))) HD6.out).mono ?_
  rintro e w7 ⟨rfl, h7⟩
  have HE := Lib.hid (show VSaid q b wd m k (parE q k (k + m)) w (.returned (.tuple #[.slice (some ⟨g, 0, none⟩) m m, .int .i64 0])) w7 from ⟨_, _, rfl, Nat.le_refl _, by rw [HN.out]; exact h7.told, h7.fld, HP.out _ h7.turned⟩)
  clear h7 HD6 d0 d1
  go_wp2_with fail
  go_ret2
  exact HE.out

set_option maxRecDepth 100000 in
theorem jpar_nil (k m : Int) (w : World) :
    Calls Tryz.prog 12 #[.pointer none, .int .i64 k, .int .i64 m] w fun e w' => e = .returned (.tuple #[nilS, .int .i64 1]) ∧ Below w.heap.size w w' := by
  go_enter Tryz.func12, Tryz.ntmps12
  go_wp2_with fail
  refine (jext_nil k m _).mono ?_
  rintro e w' ⟨rfl, hb⟩
  have HB := Lib.hid hb
  clear hb
  go_wp2_with fail
  go_ret2
  exact ⟨rfl, HB.out⟩

set_option maxRecDepth 100000 in
set_option maxHeartbeats 1000000 in
theorem jpar_no (p b wd : Nat) (k m : Int) (hk63 : k ≤ 9223372036854775807) (hno : ¬ fitsI k m) (w : World) (hf : Fld p b wd w) :
    Calls Tryz.prog 12 #[.pointer (some ⟨b, 0, none⟩), .int .i64 k, .int .i64 m] w fun e w' => e = .returned (.tuple #[nilS, .int .i64 1]) ∧ Below w.heap.size w w' := by
  have HX := Lib.hid (jext_no p b wd k m hk63 hno w hf)
  clear hf hno
  go_enter Tryz.func12, Tryz.ntmps12
  go_wp2_with fail
  refine HX.out.mono ?_
  rintro e w' ⟨rfl, hb⟩
  have HB := Lib.hid hb
  clear hb HX
  go_wp2_with fail
  go_ret2
  exact ⟨rfl, HB.out⟩
end Go.Proofs.YtgcochamjicjiaaGreat
