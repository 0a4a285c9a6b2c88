/- The contract of package vander's System; rows of powers have an inverse, and so have any rows with the identity ahead. -/
import Derived.Test.YtmpamgnbbomoaaaGreatVdb
import Derived.Test.YtmpamgnbbomoaaaGreatIvk
namespace Go.Proofs.YtmpamgnbbomoaaaGreat
open Go.RowKit

theorem Mx.take {b : Nat} {w : World} {F : Nat → Nat → Int} {Ls : Nat → Nat} {A : Option Addr} {n m : Nat} (h : Mx b w F Ls A n) (hm : m ≤ n) : Mx b w F Ls A m := by
  obtain ⟨As, Cs, h1, h2⟩ := h
  exact ⟨As, Cs, h1.take hm, fun r hr => h2 r (by omega)⟩

theorem toEl_inj {q : FP} {a c : Int} (ha : 0 ≤ a ∧ a ≤ M.ord q.p) (hc : 0 ≤ c ∧ c ≤ M.ord q.p) (h : toEl q a = toEl q c) : a = c := by
  rw [← toEl_val ha, ← toEl_val hc, h]
/-- k rows of powers of unlike numbers -/
theorem pick_full {q : FP} {k : Nat} {l : Nat → Nat} (hl : ∀ i, i < k → (l i : Int) ≤ M.ord q.p) (hu : ∀ i j, i < k → j < k → l i = l j → i = j) : rk k (fun i j => rawE q (l i) j) k = k :=
  vander_full (x := fun i => toEl q (l i : Int)) (fun i j hi hj h => hu i j hi hj (by
    have := toEl_inj ⟨by omega, hl i hi⟩ ⟨by omega, hl j hj⟩ h
    omega))
theorem raw_full {q : FP} {k : Nat} (hk : (k : Int) ≤ M.ord q.p) : rk k (rawE q) k = k := pick_full (l := fun i => i) (fun i hi => by omega) (fun i j _ _ h => h)

/-- rows of powers, times the inverse of the first ones -/
def sysE (q : FP) (k : Nat) : Nat → Nat → El q := mm k (rawE q) (ivm k (rawE q))
theorem sys_id {q : FP} {k : Nat} (hk : (k : Int) ≤ M.ord q.p) {r c : Nat} (hr : r < k) (hc : c < k) : sysE q k r c = dl r c := (ivm_inv (raw_full hk)).2 r hr c hc
theorem sys_any {q : FP} {k : Nat} {l : Nat → Nat} (hk : (k : Int) ≤ M.ord q.p) (hl : ∀ i, i < k → (l i : Int) ≤ M.ord q.p) (hu : ∀ i j, i < k → j < k → l i = l j → i = j) : rk k (fun i j => sysE q k (l i) j) k = k := by
  have e : (fun i j => sysE q k (l i) j) = mm k (fun i j => rawE q (l i) j) (ivm k (rawE q)) := rfl
  rw [e]
  exact full_mm.2 ⟨pick_full hl hu, full_of_right (ivm_inv (raw_full hk)).1⟩

set_option maxRecDepth 100000 in
set_option maxHeartbeats 2000000 in
theorem vsys_yes (q : FP) (b wd k m : Nat) (hk : side k) (hm : side m) (hkm : k + m ≤ 20) (w : World) (hf : Fld q.p b wd w) :
    Calls Tryz.prog 8 #[.pointer (some ⟨b, 0, none⟩), .int .i64 k, .int .i64 m] w (VSaid q b wd (k + m) k (sysE q k) w) := by
  have hkd := hf.1.kind
  have hkb := hkd.bounds
  have hc0 := hf.c0
  have hn1 := hk.1
  have hn2 := hk.2
  have hm1 := hm.1
  have hm2 := hm.2
  have HN := Lib.hid (show fitsI (k : Int) (m : Int) from ⟨⟨by omega, by omega⟩, ⟨by omega, by omega⟩, by omega⟩)
  have HR := Lib.hid (vraw_yes q b wd (k + m) k ⟨by omega, hkm⟩ hk w hf)
  rw [show (((k + m : Nat) : Int)) = (k : Int) + (m : Int) by omega] at HR
  have HFU := Lib.hid (raw_full (q := q) (k := k) (by omega))
  have HSD := Lib.hid hk
  have HSM := Lib.hid (show side (k + m) from ⟨by omega, hkm⟩)
  clear hf hk hm
  go_enter Tryz.func8, Tryz.ntmps8
  go_wp2_with fail
  refine (code20 b wd _ hkd k m _ hc0).mono ?_
  rintro e w' ⟨t, rfl, ht, rfl⟩
  obtain rfl : t = true := ht.2 HN.out
  clear ht
  go_wp2_with fail
  refine HR.out.mono ?_
  rintro e w2 ⟨A, c, rfl, hc, hx, hf2, ht2⟩
  have HX := Lib.hid hx
  have HF2 := Lib.hid hf2
  have HT2 := Lib.hid ht2
  have hkc : k ≤ c := by omega
  have HI := Lib.hid (inverse12 q b wd k (fun _ => k) (ivs (rawE q)) A c w2 hf2 (hx.take (by omega)))
  clear hx hf2 ht2 HR
  go_wp2_with fail
  refine HI.out.mono ?_
  rintro e w3 ⟨s, t, A3, c3, rfl, hs, ht, _, hx3, hf3, ht3⟩
  obtain rfl : s = true := hs.2 ⟨ivs_may _ HSD.out HSD.out, rfl⟩
  rw [elM_ivs] at ht hx3
  obtain rfl : t = true := (ht rfl).2 HFU.out
  rw [show err2 true true = 0 from rfl]
  simp only [Bool.and_self, cond] at hx3 ⊢
  have HF3 := Lib.hid hf3
  have HT3 := Lib.hid (HT2.out.trans ht3)
  have HMU := Lib.hid (mmul_cap q.p b wd (ivs (rawE q)) (ivs (ivm k (rawE q))) A A3 (k + m) k k c c3 w3 hf3 (HX.out.turned ht3) hx3 (ivs_may _ HSM.out HSD.out) (ivs_may _ HSD.out HSD.out))
  clear hs ht hx3 hf3 ht3 HI HT2 HF2 HX
  go_wp2_with fail
  refine HMU.out.mono ?_
  rintro e w4 ⟨A4, c4, rfl, hc4, hx4, hf4, ht4⟩
  rw [mulF_ivs] at hx4
  have HE := Lib.hid (show VSaid q b wd (k + m) k (sysE q k) w (.returned (.tuple #[.slice A4 (k + m) c4, .int .i64 0])) w4 from ⟨A4, c4, rfl, hc4, hx4, hf4, HT3.out.trans ht4⟩)
  clear hc4 hx4 hf4 ht4 HMU
  go_wp2_with fail
  go_ret2
  exact HE.out

set_option maxRecDepth 100000 in
theorem vsys_nil (k m : Int) (w : World) :
    Calls Tryz.prog 8 #[.pointer none, .int .i64 k, .int .i64 m] w fun e w' => e = .returned (.tuple #[nilS, .int .i64 1]) ∧ Below w.heap.size w w' := by
  have HB := Lib.hid (Below.refl w.heap.size w)
  go_enter Tryz.func8, Tryz.ntmps8
  go_wp2_with fail
  refine (code_nil k m _).mono ?_
  rintro e w' ⟨rfl, rfl⟩
  go_wp2_with fail
  go_ret2
  exact ⟨rfl, HB.out⟩

set_option maxRecDepth 100000 in
set_option maxHeartbeats 1000000 in
theorem vsys_no (p b wd : Nat) (k m : Int) (hno : ¬ fitsI k m) (w : World) (hf : Fld p b wd w) :
    Calls Tryz.prog 8 #[.pointer (some ⟨b, 0, none⟩), .int .i64 k, .int .i64 m] w fun e w' => e = .returned (.tuple #[nilS, .int .i64 1]) ∧ Below w.heap.size w w' := by
  have hkd := hf.1.kind
  have hc0 := hf.c0
  have HB := Lib.hid (Below.refl w.heap.size w)
  have HN := Lib.hid hno
  clear hf hno
  go_enter Tryz.func8, Tryz.ntmps8
  go_wp2_with fail
  refine (code20 b wd _ hkd k m _ hc0).mono ?_
  rintro e w' ⟨t, rfl, ht, rfl⟩
  obtain rfl : t = false := by
    cases t
    · rfl
    · exact absurd (ht.1 rfl) HN.out
  clear ht
  go_wp2_with fail
  go_ret2
  exact ⟨rfl, HB.out⟩
end Go.Proofs.YtmpamgnbbomoaaaGreat
