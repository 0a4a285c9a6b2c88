/- Layer 13's own first test. -/
import Derived.Test.YtbhpfdikkknijaaDoorCrf
import Derived.Test.YtbhpfdikkknijaaDoorCri
import Derived.Lib.SlBytesConst
namespace Go.Proofs.YtbhpfdikkknijaaDoor
open Go.RowKit

/-- bytes written out -/
def litB (l : List Nat) (j : Nat) : Nat := l.getD j 0 % 256
theorem litB_lt (l : List Nat) (j : Nat) : litB l j < 256 := Nat.mod_lt _ (by omega)
def rowB (l : List Nat) : Array Value := (l.map (fun c => Value.int .u8 ((c % 256 : Nat)))).toArray
theorem lit_rd (l : List Nat) {C : Array Value} (hC : C = rowB l) {w v : World} (hv : w.alloc (.cells C TB (l.length, l.length + 1)) = v) (b : Nat) (hb : b ≠ w.heap.size) :
    Rd b v (u8s (litB l)) (some ⟨w.heap.size, 0, none⟩) l.length ∧ Below w.heap.size w v := by
  subst hv
  subst hC
  refine ⟨fun _ => ⟨_, rfl, fun e => hb e.symm, by simp, fun j hj => ?_⟩, below_alloc w _⟩
  rw [show (⟨w.heap.size, 0, none⟩ : Addr).add j = ⟨w.heap.size, j, none⟩ by unfold Addr.add; split <;> simp_all, World.cell?_alloc_mark]
  simp [rowB, hj, litB, u8s, List.getD]

def l9 : List Nat := [49, 50, 51, 52, 53, 54, 55, 56, 57]
def l4 : List Nat := [49, 50, 51, 52]
def l5 : List Nat := [53, 54, 55, 56, 57]
def lr : List Nat := [99, 98, 102, 52, 51, 57, 50, 54]
theorem sum9 : moreF (litB l9) 9 0 = 3421780262 := by decide +kernel
theorem sum45 : moreF (litB l5) 5 (moreF (litB l4) 4 0) = 3421780262 := by decide +kernel
theorem txt255 : strF (txtI 255 8) 8 = ⟨#[48, 48, 48, 48, 48, 48, 102, 102]⟩ := by decide
theorem strR : strF (litB lr) 8 = ⟨#[99, 98, 102, 52, 51, 57, 50, 54]⟩ := by decide
theorem readR : readN (litB lr) 8 = 3421780262 := by decide
theorem hexR : ∀ j, j < 8 → isHex (litB lr j) := by decide

set_option maxRecDepth 100000 in
set_option maxHeartbeats 2000000 in
theorem awakeX (w : World) (hE : Env w) : Calls Tryd.prog 9 #[] w fun e w' => e = .returned (.bool true) ∧ Below w.heap.size w w' := by
  have kc := fun (w : World) (C : Array Value) (n c : Nat) => Lib.run_convert_bytes_const (P := Tryd.prog) w TBs TB C n c Tryd.underlying23 Tryd.underlying5
  have HR := Lib.hid (read16 (litB lr) (litB_lt lr) 8 (by omega) w hE)
  have HEN := Lib.hid hE
  clear hE
  rw [strR] at HR
  go_enter Tryd.func9, Tryd.ntmps9
  go_wp2_with fail
  refine HR.out.mono ?_
  rintro e w1 ⟨t, rfl, ht, hb1⟩
  obtain rfl : t = true := ht.2 ⟨rfl, hexR⟩
  rw [show (cond true (readN (litB lr) 8) 0 : Nat) = 3421780262 from readR]
  have H1 := Lib.hid hb1
  clear ht hb1 HR
  obtain ⟨v1, hv1⟩ : ∃ v, w1.alloc (.cells #[.int .u8 49, .int .u8 50, .int .u8 51, .int .u8 52, .int .u8 53, .int .u8 54, .int .u8 55, .int .u8 56, .int .u8 57] TB (9, 10)) = v := ⟨_, rfl⟩
  obtain ⟨q1, q2⟩ := lit_rd l9 (by rfl) hv1 (w1.heap.size + 1) (by omega)
  have HS := Lib.hid (csum10 (w1.heap.size + 1) (litB l9) (litB_lt l9) (some ⟨w1.heap.size, 0, none⟩) 9 9 (by omega) v1 q1)
  have HQ := Lib.hid (H1.out.trans (q2.mono H1.out.size))
  clear q1 q2
  go_wp2_with fail
  refine HS.out.mono ?_
  rintro e w2 ⟨rfl, hb2⟩
  rw [sum9]
  have H2 := Lib.hid (below_tr HQ.out hb2)
  clear hb2 HS hv1 HQ H1
  go_wp2_with fail
  refine (text17 255 (by omega) w2 (HEN.out.below H2.out)).mono ?_
  rintro e w3 ⟨rfl, hb3⟩
  rw [txt255]
  have H3 := Lib.hid (below_tr H2.out hb3)
  clear hb3 H2
  obtain ⟨v3, hv3⟩ : ∃ v, w3.alloc (.cells #[.int .u8 49, .int .u8 50, .int .u8 51, .int .u8 52] TB (4, 5)) = v := ⟨_, rfl⟩
  obtain ⟨q1, q2⟩ := lit_rd l4 (by rfl) hv3 (w3.heap.size + 1) (by omega)
  have HS := Lib.hid (csum10 (w3.heap.size + 1) (litB l4) (litB_lt l4) (some ⟨w3.heap.size, 0, none⟩) 4 4 (by omega) v3 q1)
  have HQ := Lib.hid (below_tr H3.out q2)
  clear q1 q2
  go_wp2_with fail
  refine HS.out.mono ?_
  rintro e w4 ⟨rfl, hb4⟩
  have H4 := Lib.hid (below_tr HQ.out hb4)
  clear hb4 hv3 HQ HS H3
  obtain ⟨v5, hv5⟩ : ∃ v, w4.alloc (.cells #[.int .u8 53, .int .u8 54, .int .u8 55, .int .u8 56, .int .u8 57] TB (5, 6)) = v := ⟨_, rfl⟩
  obtain ⟨q1, q2⟩ := lit_rd l5 (by rfl) hv5 (w4.heap.size + 1) (by omega)
  have HS := Lib.hid (more12 (w4.heap.size + 1) (moreF (litB l4) 4 0) (moreF_lt _ _ _) (litB l5) (litB_lt l5) (some ⟨w4.heap.size, 0, none⟩) 5 5 (by omega) v5 q1)
  rw [sum45] at HS
  have HQ := Lib.hid (below_tr H4.out q2)
  obtain ⟨y, hy⟩ : ∃ y, moreF (litB l4) 4 0 = y := ⟨_, rfl⟩
  rw [hy] at HS ⊢
  clear q1 q2 hy
  go_wp2_with fail
  refine HS.out.mono ?_
  rintro e w6 ⟨rfl, hb6⟩
  have H6 := Lib.hid (below_tr HQ.out hb6)
  clear hb6 hv5 HQ HS H4
  go_wp2_with fail
  go_ret
  exact ⟨rfl, H6.out⟩
end Go.Proofs.YtbhpfdikkknijaaDoor
