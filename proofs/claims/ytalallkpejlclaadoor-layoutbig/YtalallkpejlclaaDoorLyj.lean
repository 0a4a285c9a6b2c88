/- Layer 10: what is split is joined; layer 10's own first test. -/
import Derived.Test.YtalallkpejlclaaDoorLyh
import Derived.Lib.SlBytesConst
namespace Go.Proofs.YtalallkpejlclaaDoor
open Go.RowKit

theorem join_of_split {p k m : Int} {n : Nat} (f : Nat → Nat) (hE : szE p k m n = 0) :
    joinP (layI p) (splN p k m n) (szN p k m n) n (splF p (szN p k m n) n f) ∧ numJ (layI p) n (catF (szN p k m n) (splF p (szN p k m n) n f)) = n ∧
      (∀ i, i < n → catF (szN p k m n) (splF p (szN p k m n) n f) (aheadL (layI p) + i) = f i) ∧ okJ p k m (splN p k m n) (fun _ => szN p k m n) := by
  obtain ⟨K, rfl, k1, k8, hn, hmay⟩ := sz_ok hE
  have hS := (szE_ok hmay hn).1
  have hN : splN p K m n = K := (if_pos hE).trans (Int.toNat_natCast K)
  rw [hN, hS]
  obtain ⟨h1, h2, h3⟩ := join_split (l := layI p) (K := K) (n := n) k1 hn f
  exact ⟨h1, h2, h3, hmay, rfl, fun _ _ => rfl⟩

/-- Join, of what was split -/
theorem join_back {p k m : Int} {n : Nat} {f : Nat → Nat} {w w' : World} {e : Ending} (hE : szE p k m n = 0) (h : JoinSaid p k m (splN p k m n) (fun _ => szN p k m n) (splF p (szN p k m n) n f) n w e w') :
    ∃ v, e = .returned (.tuple #[v, .int .i64 0]) ∧ BytesOut n f w v w' := by
  obtain ⟨h1, h2, h3, h4⟩ := join_of_split f hE
  obtain ⟨s, t, v, rfl, hs, ht, hv⟩ := h
  obtain rfl : s = true := hs.2 h4
  obtain rfl : t = true := ht.2 ⟨rfl, h1⟩
  refine ⟨v, rfl, ?_⟩
  rw [h2, Int.toNat_natCast] at hv
  obtain ⟨A, c, rfl, hc, hr, hb⟩ := hv
  exact ⟨A, c, rfl, hc, fun b hb' => (hr b hb').congr (fun j hj => by simp only [u8s]; rw [h3 j hj]), hb⟩

/-- abcde -/
def lit5 (j : Nat) : Nat := if j < 5 then 97 + j else 0
theorem lit5_lt (j : Nat) : lit5 j < 256 := by unfold lit5; split <;> omega

set_option maxRecDepth 100000 in
set_option maxHeartbeats 2000000 in
theorem awakeL (w : World) (hT : Tab w) : Calls Tryd.prog 9 #[] w fun e w' => e = .returned (.bool true) ∧ Below w.heap.size w w' := by
  have e1 : szE 6 2 1 5 = 0 := by decide
  have e2 : splN 6 2 1 5 = 2 := by decide
  have e3 : szN 6 2 1 5 = 3 := by decide
  have e4 : szE 1 2 1 5 = 0 := by decide
  have e5 : szN 1 2 1 5 = 8 := by decide
  have h0 := hT.lt
  have kc := fun (w : World) (C : Array Value) (n c : Nat) => Lib.run_convert_bytes_const (P := Tryd.prog) w TBs TB C n c Tryd.underlying24 Tryd.underlying5
  obtain ⟨v, hv⟩ : ∃ v, w.alloc (.cells #[.int .u8 97, .int .u8 98, .int .u8 99, .int .u8 100, .int .u8 101] TB (5, 6)) = v := ⟨_, rfl⟩
  have hbv : Below w.heap.size w v := by rw [← hv]; exact below_alloc w _
  have hlit : Rd (w.heap.size + 1) v (u8s lit5) (some ⟨w.heap.size, 0, none⟩) 5 := fun _ => by
    refine ⟨_, rfl, by simp, by rw [← hv]; simp, fun j hj => ?_⟩
    rw [← hv, show (⟨w.heap.size, 0, none⟩ : Addr).add j = ⟨w.heap.size, j, none⟩ by unfold Addr.add; split <;> simp_all, World.cell?_alloc_mark]
    match j, hj with
    | 0, _ => rfl
    | 1, _ => rfl
    | 2, _ => rfl
    | 3, _ => rfl
    | 4, _ => rfl
  have HS := Lib.hid (split12 (w.heap.size + 1) 6 2 1 lit5 (some ⟨w.heap.size, 0, none⟩) 5 5 v (hT.below hbv) hlit)
  have HV := Lib.hid hbv
  have HT := Lib.hid (hT.below hbv)
  have HE := Lib.hid (And.intro e1 (And.intro e2 (And.intro e3 (And.intro e4 e5))))
  clear hbv hlit hT e1 e2 e3 e4 e5
  go_enter Tryd.func9, Tryd.ntmps9
  go_wp2_with fail
  refine HS.out.mono ?_
  rintro e w1 ⟨v1, rfl, A1, c1, rfl, _, hx1, hb1⟩
  rw [show ((5 : Nat) : Int) = 5 from rfl, HE.out.2.1, HE.out.2.2.1] at hx1
  rw [show ((5 : Nat) : Int) = 5 from rfl, HE.out.1, HE.out.2.1]
  have H1 := Lib.hid (below_tr HV.out hb1)
  have HT1 := Lib.hid (HT.out.below hb1)
  have HX1 := Lib.hid (hx1 0 (by have := HV.out.size; omega))
  clear hx1 hb1 HS HT kc
  go_wp2_with fail
  refine (size10 1 2 1 5 _ HT1.out).mono ?_
  rintro e w2 ⟨rfl, hb2⟩
  rw [HE.out.2.2.2.1, HE.out.2.2.2.2]
  have H2 := Lib.hid (below_tr H1.out hb2)
  have HT2 := Lib.hid (HT1.out.below hb2)
  have HX2 := Lib.hid (HX1.out.below hb2)
  clear hb2 H1 HT1 HX1
  go_wp2_with fail
  refine (join16 0 6 2 1 (splF 6 3 5 lit5) (fun r j => laidB_lt lit5_lt _) (fun _ => 3) A1 2 c1 (by omega) (fun _ _ => by omega) 5 w2 HT2.out HX2.out).mono ?_
  rintro e w3 hj3
  have hj4 := join_back (p := 6) (k := 2) (m := 1) (n := 5) (f := lit5) (w := w2) (w' := w3) (e := e) HE.out.1 (by
    rw [show ((5 : Nat) : Int) = 5 from rfl, HE.out.2.1, HE.out.2.2.1]
    exact hj3)
  obtain ⟨v3, rfl, A3, c3, rfl, _, hr3, hb3⟩ := hj4
  have H3 := Lib.hid (below_tr H2.out hb3)
  have HC3 := conv_rd c3 (hr3 0 (by have := H2.out.size; omega))
  have hx3 := HX2.out.below hb3
  clear hr3 hb3 hj3 H2 HT2 HX2
  obtain ⟨As, Cs, hr1, hr2⟩ := hx3
  obtain ⟨ad, rfl, c4⟩ := hr1.at_ (show 1 < 2 by omega)
  have hc5 := conv_rd (Cs 1) (hr2 1 (by omega))
  have e8 : strF (splF 6 3 5 lit5 1) 3 = ⟨#[100, 101, 0]⟩ := by decide
  have e9 : strF lit5 5 = ⟨#[97, 98, 99, 100, 101]⟩ := by decide
  rw [e8] at hc5
  rw [e9] at HC3
  rw [show ad.add 1 = ⟨ad.block, ad.off + 1, none⟩ by unfold Addr.add; simp] at c4
  simp only [slis] at c4
  clear hr1 hr2 e8 e9
  go_wp2_with fail
  go_ret
  exact ⟨rfl, H3.out⟩
end Go.Proofs.YtalallkpejlclaaDoor
