/- Layer 11's own first test. -/
import Derived.Test.YtgbipbcejjlpiaaGreatDoorCdl
import Derived.Lib.SlBytesConst
namespace Go.Proofs.YtgbipbcejjlpiaaGreatDoor
open Go.RowKit

/-- abcdefghABCDEFGH -/
def lit16 (j : Nat) : Nat := if j < 8 then 97 + j else if j < 16 then 57 + j else 0
theorem lit16_lt (j : Nat) : lit16 j < 256 := by unfold lit16; split; omega; split <;> omega
theorem may121 : mayX 1 ((2 : Nat) : Int) ((1 : Nat) : Int) := ⟨by omega, by omega, by omega, by decide⟩
/-- the third shard is blanks -/
theorem blank16 : strF (encF 1 2 1 8 16 lit16 2) 8 = ⟨#[32, 32, 32, 32, 32, 32, 32, 32]⟩ := by
  have h : ∀ j, j < 8 → splF 1 8 16 lit16 0 j ^^^ splF 1 8 16 lit16 1 j = 32 := by decide
  rw [strF_congr (g := fun _ => 32) (fun j hj => by
    unfold encF
    rw [if_neg (by omega), parF_ones may121 (Or.inl rfl) (splF_lt lit16_lt)]
    exact h j hj)]
  decide

set_option maxRecDepth 100000 in
set_option maxHeartbeats 2000000 in
theorem awakeK (w : World) (hT : Tab w) : Calls Tryz.prog 9 #[] w fun e w' => e = .returned (.bool true) ∧ Below w.heap.size w w' := by
  have e1 : szE 1 2 1 ((16 : Nat) : Int) = 0 := by decide
  have e2 : encN 1 2 1 16 = 3 := by decide
  have e3 : szN 1 2 1 ((16 : Nat) : Int) = 8 := by decide
  have h0 := hT.lt
  have kc := fun (w : World) (C : Array Value) (n c : Nat) => Lib.run_convert_bytes_const (P := Tryz.prog) w TBs TB C n c Tryz.underlying34 Tryz.underlying5
  obtain ⟨v, hv⟩ : ∃ v, w.alloc (.cells #[.int .u8 97, .int .u8 98, .int .u8 99, .int .u8 100, .int .u8 101, .int .u8 102, .int .u8 103, .int .u8 104, .int .u8 65, .int .u8 66, .int .u8 67, .int .u8 68, .int .u8 69, .int .u8 70, .int .u8 71, .int .u8 72] TB (16, 17)) = v := ⟨_, rfl⟩
  have hbv : Below w.heap.size w v := by rw [← hv]; exact below_alloc w _
  have hlit : Rd (w.heap.size + 1) v (u8s lit16) (some ⟨w.heap.size, 0, none⟩) 16 := fun _ => by
    refine ⟨_, rfl, by simp, by rw [← hv]; simp, fun j hj => ?_⟩
    rw [← hv, show (⟨w.heap.size, 0, none⟩ : Addr).add j = ⟨w.heap.size, j, none⟩ by unfold Addr.add; split <;> simp_all, World.cell?_alloc_mark]
    match j, hj with
    | 0, _ => rfl
    | 1, _ => rfl
    | 2, _ => rfl
    | 3, _ => rfl
    | 4, _ => rfl
    | 5, _ => rfl
    | 6, _ => rfl
    | 7, _ => rfl
    | 8, _ => rfl
    | 9, _ => rfl
    | 10, _ => rfl
    | 11, _ => rfl
    | 12, _ => rfl
    | 13, _ => rfl
    | 14, _ => rfl
    | 15, _ => rfl
    | n + 16, h => exact absurd h (by omega)
  have HS := Lib.hid (enc16 (w.heap.size + 1) 1 2 1 lit16 lit16_lt (some ⟨w.heap.size, 0, none⟩) 16 16 (by omega) v (hT.below hbv) hlit)
  have HV := Lib.hid hbv
  have HT := Lib.hid (hT.below hbv)
  have HE := Lib.hid (And.intro e1 (And.intro e2 e3))
  clear hbv hlit hT e1 e2 e3
  go_enter Tryz.func9, Tryz.ntmps9
  go_wp2_with fail
  refine HS.out.mono ?_
  rintro e w1 ⟨v1, rfl, hr⟩
  rw [HE.out.2.1, HE.out.2.2] at hr
  rw [HE.out.1]
  obtain ⟨A1, c1, rfl, hc1, hx1, hb1⟩ := hr
  have H1 := Lib.hid (below_tr HV.out hb1)
  have HT1 := Lib.hid (HT.out.below hb1)
  have hvz := HV.out.size
  obtain ⟨As, Cs, hr1, hr2⟩ := hx1 0 (by omega)
  have h1z := H1.out.size
  have HQ := Lib.hid (ver14 0 1 2 1 As (fun _ => 8) Cs (encF 1 2 1 8 16 lit16) (encF_lt lit16_lt) A1 3 c1 (by omega) hc1 (fun _ _ => by omega) w1 HT1.out (by omega) hr1 hr2)
  obtain ⟨ad, rfl, c4⟩ := hr1.at_ (show 2 < 3 by omega)
  have hc5 := conv_rd (Cs 2) (hr2 2 (by omega))
  rw [show strF (encF 1 (2 : Int).toNat (1 : Int).toNat 8 16 lit16 2) 8 = strF (encF 1 2 1 8 16 lit16 2) 8 from rfl, blank16] at hc5
  rw [show ad.add 2 = ⟨ad.block, ad.off + 2, none⟩ by unfold Addr.add; simp] at c4
  simp only [slis] at c4
  clear hr1 hr2 hx1 hb1 HS HT kc
  go_wp2_with fail
  refine HQ.out.mono ?_
  rintro e w2 ⟨t, rfl, ht, hb2⟩
  obtain rfl : t = true := ht.2 (ver_enc (p := 1) (K := 2) (m := 1) (S := 8) (n := 16) (f := lit16) may121 (by decide))
  have H2 := Lib.hid (below_tr H1.out hb2)
  clear ht hb2
  go_wp2_with fail
  go_ret
  exact ⟨rfl, H2.out⟩
end Go.Proofs.YtgbipbcejjlpiaaGreatDoor
