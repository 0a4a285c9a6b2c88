/- The contract of poly.Primitive. -/
import Derived.Test.YtomlfmfahlcedaaIrr
import Derived.Test.YtomlfmfahlcedaaPox
import Derived.Test.YtomlfmfahlcedaaPrm
namespace Go.Proofs.Ytomlfmfahlcedaa
open Go.RowKit

/-- a bool that says whether P holds; memory only grew -/
def Says (P : Prop) (w : World) (e : Ending) (w' : World) : Prop := ∃ b : Bool, e = .returned (.bool b) ∧ (b = true ↔ P) ∧ Below w.heap.size w w'

theorem Says.yes {P : Prop} {w w' : World} (h : P) (hb : Below w.heap.size w w') : Says P w (.returned (.bool true)) w' := ⟨true, rfl, by simp [h], hb⟩
theorem Says.no {P : Prop} {w w' : World} (h : ¬ P) (hb : Below w.heap.size w w') : Says P w (.returned (.bool false)) w' := ⟨false, rfl, by simp [h], hb⟩

def PrAt (P c g : Nat) (l : List Nat) (w wr : World) (i : Value) : Prop :=
  ∃ k : Nat, k ≤ l.length ∧ i = .int .i64 k ∧ (∀ x, x ∈ l.take k → M.pw 2 P (c / x) ≠ 1) ∧ (∀ j (h : j < l.length), wr.cell? ⟨g, j, none⟩ = some (.int .u32 (l[j] : Nat))) ∧ g < wr.heap.size ∧ Below w.heap.size w wr

set_option maxRecDepth 100000 in
set_option maxHeartbeats 2000000 in
theorem prim20_in (p : Int) (w : World) (p0 : 0 ≤ p) (p1 : p ≤ 4294967295) (hirr : M.irr p.toNat = true) :
    Calls Try.prog 37 #[.int .u32 p] w (Says (M.Prim p.toNat) w) := by
  have hbl := M.irr_blen hirr
  have HPI := Lib.hid (fun l => M.prim_iff (l := l) hirr)
  have HI := Lib.hid hirr
  clear hirr
  go_enter Try.func37, Try.ntmps37
  go_wp2_with fail
  refine (irr18 _ _ p0 p1).mono ?_
  rintro e w1 ⟨rfl, hb1⟩
  rw [HI.out]
  have HB1 := Lib.hid hb1
  clear hb1
  go_wp2_with fail
  refine (deg10 _ _ p0 (by omega)).mono ?_
  rintro e w' ⟨rfl, rfl⟩
  generalize hlb : M.blen p.toNat = l at *
  have HLB := Lib.hid hlb
  clear hlb
  go_wp2_with fail
  obtain ⟨c, hc, c1, c2⟩ : ∃ c : Nat, 2 ^ (l - 1) - 1 = c ∧ 1 ≤ c ∧ c ≤ 65535 := by
    refine ⟨_, rfl, ?_, ?_⟩
    · have : 2 ^ 1 ≤ 2 ^ (l - 1) := Nat.pow_le_pow_right (by decide) (by omega)
      omega
    · have : 2 ^ (l - 1) ≤ 2 ^ 16 := Nat.pow_le_pow_right (by decide) (by omega)
      omega
  have e0 : (2 : Int) ^ (l - 1) = (c : Int) + 1 := by
    rw [show (2 : Int) ^ (l - 1) = ((2 ^ (l - 1) : Nat) : Int) by simp]
    have := Nat.two_pow_pos (l - 1)
    omega
  rw [e0, show ((c : Int) + 1 - 1) % 4294967296 = (c : Int) by omega, show ((c : Int) + 1) % 4294967296 = (c : Int) + 1 by omega, show ((c : Int) + 1 - 1) % 4294967296 = (c : Int) by omega]
  rw [hc] at HPI
  have HC := Lib.hid hc
  clear e0 hc
  refine (pox27 _ _ _ (by omega) (by omega) p0 p1).mono ?_
  rintro e w2 ⟨rfl, hb2⟩
  rw [Int.toNat_natCast]
  have HB2 := Lib.hid (HB1.out.trans (hb2.mono HB1.out.size))
  clear hb2
  by_cases h1 : M.pw 2 p.toNat c = 1
  · rw [h1]
    go_wp2_with fail
    refine (prm28 _ _ (by omega) (by omega)).mono ?_
    rintro e w3 ⟨v, L, rfl, hL, hLn, hown, hb3⟩
    have HL := Lib.hid hL
    have HB3 := Lib.hid (HB2.out.trans (hb3.mono HB2.out.size))
    clear hL hb3
    have hown2 := hown
    rcases hown2 with ⟨_, ⟨rfl, h0⟩ | ⟨g, cap, cur, rfl, hg, hcell, hcap, hcm, hcz, htk⟩⟩
    · have hpr : M.Prim p.toNat := by
        obtain rfl : L = [] := List.eq_nil_of_length_eq_zero h0
        exact (HPI.out [] HL.out).2 ⟨h1, by simp⟩
      have HPR := Lib.hid hpr
      clear hpr hown h0 h1
      go_wp2_with fail
      refine wp_loop_rounds 1 ?_
      rw [rounds_succ]
      go_wp2_with fail
      go_ret
      exact Says.yes HPR.out HB3.out
    · have hcl : ∀ j (h : j < L.length), w3.cell? ⟨g, j, none⟩ = some (.int .u32 (L[j] : Nat)) := fun j h => by
        have := hown.cells (g := g) rfl j (.int .u32 (L[j] : Nat)) (by simp [u32s, h])
        by_cases hj : j = 0
        · subst hj; simpa [Addr.add] using this
        · simpa [Addr.add, hj] using this
      have hgz : g < w3.heap.size := (hown.lt g rfl).2
      have hle := HL.out.1
      have HLE := Lib.hid hle
      have HCL := Lib.hid hcl
      have HH1 := Lib.hid h1
      clear hown hcell hcz htk hcl hle h1
      go_wp2_with fail
      go_loopw [21] (fun i wr => PrAt p.toNat c g L w wr i) (fun i _ => L.length - (intOf i).toNat)
      case atStart => exact ⟨0, by omega, rfl, by simp, HCL.out, hgz, HB3.out⟩
      case round =>
        clear HCL HB3 hgz
        obtain ⟨k, hk, rfl, hall, hcl, hgz, hb⟩ := hrel
        have HCL := Lib.hid hcl
        have HA := Lib.hid hall
        have HB := Lib.hid hb
        clear hcl hall hb
        by_cases hlt : k < L.length
        · have hck := HCL.out k hlt
          have hx := HLE.out L[k] (List.getElem_mem hlt)
          have hxc : L[k] ≤ c := Nat.le_of_dvd (by omega) hx.2
          have hx2 := hx.1
          generalize hxe : L[k] = x at *
          have HXE := Lib.hid hxe
          clear hx hxe
          have hcx : c / x ≤ c := Nat.div_le_self _ _
          have hE : ((c : Int) / (x : Int) % 4294967296) = ((c / x : Nat) : Int) := by rw [← Int.natCast_ediv]; generalize c / x = z at *; omega
          have HE := Lib.hid hE
          generalize hcz : c / x = z at *
          have HCZ := Lib.hid hcz
          clear hE hcz
          go_wp2_with fail
          rw [HE.out]
          refine (pox27 _ _ _ (by omega) (by omega) p0 p1).mono ?_
          rintro e w4 ⟨rfl, hb4⟩
          rw [Int.toNat_natCast]
          have hgz4 : g < w4.heap.size := Nat.lt_of_lt_of_le hgz hb4.size
          have HCL4 := Lib.hid (fun j h => (hb4.cell (p := ⟨g, j, none⟩) hgz).trans (HCL.out j h))
          have HB4 := Lib.hid (HB.out.trans (hb4.mono HB.out.size))
          clear hb4
          by_cases hone : M.pw 2 p.toNat z = 1
          · have hpr : ¬ M.Prim p.toNat := fun h => ((HPI.out L HL.out).1 h).2 x (HXE.out ▸ List.getElem_mem hlt) (by rw [HCZ.out]; exact hone)
            have HPR := Lib.hid hpr
            clear hpr
            rw [hone]
            clear hone
            go_wp2_with fail
            go_ret
            exact Says.no HPR.out HB4.out
          · have hne : ((M.pw 2 p.toNat z : Int) == 1) = false := by rw [beq_eq_false_iff_ne]; omega
            have HONE := Lib.hid hone
            clear hone
            have HN := Lib.hid (show ∀ y, y ∈ L.take (k + 1) → M.pw 2 p.toNat (c / y) ≠ 1 by
              intro y hy
              rw [List.take_succ_eq_append_getElem hlt, List.mem_append] at hy
              rcases hy with hy | hy
              · exact HA.out y hy
              · obtain rfl : y = x := by rw [← HXE.out]; simpa using hy
                rw [HCZ.out]; exact HONE.out)
            generalize M.pw 2 p.toNat z = r at *
            go_wp2_with fail
            exact ⟨⟨k + 1, by omega, by go_num, HN.out, HCL4.out, hgz4, HB4.out⟩, by simp [intOf]; omega⟩
        · have hpr : M.Prim p.toNat := (HPI.out L HL.out).2 ⟨HH1.out, fun x hx => HA.out x (by rwa [List.take_of_length_le (by omega)])⟩
          have HPR := Lib.hid hpr
          clear hpr
          go_wp2_with fail
          go_ret
          exact Says.yes HPR.out HB.out
  · have hne : ((M.pw 2 p.toNat c : Int) != 1) = true := by rw [bne_iff_ne]; omega
    have hpr : ¬ M.Prim p.toNat := fun h => h1 (by
      have := h.2.1
      rwa [HLB.out, HC.out] at this)
    have HPR := Lib.hid hpr
    clear hpr h1
    generalize M.pw 2 p.toNat c = r at *
    go_wp2_with fail
    go_ret
    exact Says.no HPR.out HB2.out

set_option maxRecDepth 100000 in
set_option maxHeartbeats 1000000 in
theorem prim20_out (p : Int) (w : World) (p0 : 0 ≤ p) (p1 : p ≤ 4294967295) (hirr : M.irr p.toNat = false) :
    Calls Try.prog 37 #[.int .u32 p] w (Says (M.Prim p.toNat) w) := by
  have HN := Lib.hid (show ¬ M.Prim p.toNat from fun h => by rw [h.1] at hirr; cases hirr)
  have HI := Lib.hid hirr
  clear hirr
  go_enter Try.func37, Try.ntmps37
  go_wp2_with fail
  refine (irr18 _ _ p0 p1).mono ?_
  rintro e w1 ⟨rfl, hb1⟩
  rw [HI.out]
  have HB1 := Lib.hid hb1
  clear hb1
  go_wp2_with fail
  go_ret
  exact Says.no HN.out HB1.out

theorem prim20 (p : Int) (w : World) (p0 : 0 ≤ p) (p1 : p ≤ 4294967295) : Calls Try.prog 37 #[.int .u32 p] w (Says (M.Prim p.toNat) w) := by
  cases h : M.irr p.toNat
  · exact prim20_out p w p0 p1 h
  · exact prim20_in p w p0 p1 h
end Go.Proofs.Ytomlfmfahlcedaa
