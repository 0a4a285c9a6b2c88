/- Layer 10: what is laid, told by a function that is ranged over. -/
import Derived.Test.YtalallkpejlclaaDoorLyd
import Derived.Test.YtalallkpejlclaaDoorLyb
import Derived.Test.YtalallkpejlclaaDoorRfh
import Derived.Shelf.Abstract
import Derived.Shelf.RegionOpen
import Derived.OwnWalkIn
import Derived.TacticsInMore
import Derived.LoopNIn
import Derived.LoopIn
import Derived.Deep.Cut
import Derived.Deep.CutRange
namespace Go.Proofs.YtalallkpejlclaaDoor
open Go.RowKit Go.Shelf
attribute [local go_sem] Oper.semAt_some

set_option maxRecDepth 100000 in
theorem laid27 (l : Int) (B : Option Addr) (n cb : Nat) (w : World) :
    Calls Tryd.prog 27 #[.int .u8 l, .slice B n cb] w fun e w' => e = .returned (.func (.func 36) #[] #[.pointer (some ⟨w.heap.size + 1, 0, none⟩), .pointer (some ⟨w.heap.size, 0, none⟩)]) ∧ (w.alloc (.cells #[.int .u8 l] TB)).alloc (.cells #[.slice B n cb] TBs) = w' := by
  have hmf : ∀ (fn : Fn) (first cap : Array Value) (w : World), (Instr.makeFunc fn first cap).run Tryd.prog w = .ok (.func fn first cap) w := fun _ _ _ _ => rfl
  go_enter Tryd.func27, Tryd.ntmps27
  go_wp2_with fail
  go_ret
  exact ⟨rfl, rfl⟩

/-- what is laid is told from -/
def LaidT (b bb bl : Nat) (l : Int) (n : Nat) (B : Option Addr) (cb : Nat) (f : Nat → Nat) (W : World) : Prop :=
  W.cell? ⟨bb, 0, none⟩ = some (.slice B n cb) ∧ W.cell? ⟨bl, 0, none⟩ = some (.int .u8 l) ∧ Rd b W (u8s f) B n
/-- the j-th byte -/
def LaidX (l : Int) (n : Nat) (f : Nat → Nat) (j x : Nat) (_ : World) : Prop := x = laidB (aheadL l) n f j

/-- where part i begins, and how long it is -/
def offI (a n i : Nat) : Nat := if i = 0 then 0 else if i = 1 then a else a + n
def lenI (a n i : Nat) : Nat := if i = 0 then a else n
def partA (gh : Nat) (B : Option Addr) (i : Nat) : Option Addr := if i = 0 then some ⟨gh, 0, none⟩ else B
def partC (cb i : Nat) : Nat := if i = 0 then 4 else cb
/-- where the head and both parts lie -/
structure LaidM (l : Int) (n : Nat) (B : Option Addr) (cb : Nat) (H gh gp : Nat) (W : World) : Prop where
  low : H ≤ gh ∧ H ≤ gp
  head : W.rowIs gh THd 4 (u8s fun i => laidB 4 n (fun _ => 0) i)
  parts : W.rowIs gp TBs 2 (slis (partA gh B) (lenI (aheadL l) n) (partC cb))
theorem LaidM.kept {l : Int} {n : Nat} {B : Option Addr} {cb H gh gp : Nat} {W W' : World} (h : LaidM l n B cb H gh gp W) (hk : KeptFrom H W W') : LaidM l n B cb H gh gp W' :=
  ⟨h.low, h.head.of_block (hk.block gh h.low.1 h.head.lt), h.parts.of_block (hk.block gp h.low.2 h.parts.lt)⟩
def LaidAt (l : Int) (n : Nat) (B : Option Addr) (cb H : Nat) (W1 : World) (s16 s17 s18 : Value) (W : World) : Prop :=
  ∃ gh gp, s16 = .slice (some ⟨gp, 0, none⟩) 2 2 ∧ s17 = .int .i64 2 ∧ s18 = .int .i64 0 ∧ LaidM l n B cb H gh gp W ∧ Below W1.heap.size W1 W

theorem offI_step {a n i : Nat} (hi : i < 2) : offI a n i + lenI a n i = offI a n (i + 1) := by
  match i, hi with
  | 0, _ => simp [offI, lenI]
  | 1, _ => simp [offI, lenI]
theorem offI_le {a n i j : Nat} (hi : i < 2) (hj : j < lenI a n i) : offI a n i + j < a + n := by
  match i, hi with
  | 0, _ => simp [offI, lenI] at *; omega
  | 1, _ => simp [offI, lenI] at *; omega
theorem LaidM.byte {l : Int} {n : Nat} {B : Option Addr} {cb H gh gp b bb bl : Nat} {f : Nat → Nat} {W : World} (h : LaidM l n B cb H gh gp W) (hT : LaidT b bb bl l n B cb f W) {i j : Nat} (hi : i < 2) (hj : j < lenI (aheadL l) n i) :
    ∃ ad, partA gh B i = some ad ∧ W.cell? (ad.add j) = some (.int .u8 (laidB (aheadL l) n f (offI (aheadL l) n i + j) : Nat)) := by
  match i, hi with
  | 0, _ =>
    have ha : aheadL l = 4 := by
      unfold lenI aheadL at *
      simp at hj
      split at hj
      · rw [if_pos ‹_›]
      · omega
    refine ⟨⟨gh, 0, none⟩, rfl, ?_⟩
    have hh := h.head.cell (i := j) (by unfold lenI at hj; simp at hj; omega)
    rw [ha]
    rw [show (⟨gh, 0, none⟩ : Addr).add j = ⟨gh, j, none⟩ by unfold Addr.add; split <;> simp_all, hh]
    simp only [u8s, offI, if_pos, Nat.zero_add]
    unfold lenI at hj
    simp at hj
    unfold laidB
    rw [if_pos (by omega), if_pos (by omega)]
  | 1, _ =>
    simp only [lenI] at hj ⊢
    simp at hj ⊢
    obtain ⟨ad, rfl, hb⟩ := hT.2.2.at_ hj
    refine ⟨ad, rfl, ?_⟩
    rw [hb]
    simp only [u8s, offI]
    simp [laidB_at hj]
/-- between the parts, and within one -/
def LaidO (J : Nat → World → Prop) (l : Int) (n : Nat) (B : Option Addr) (cb H gh gp : Nat) (s18 : Value) (W : World) : Prop :=
  ∃ i : Nat, i ≤ 2 ∧ s18 = .int .i64 i ∧ J (offI (aheadL l) n i) W ∧ LaidM l n B cb H gh gp W
def LaidN (J : Nat → World → Prop) (l : Int) (n : Nat) (B : Option Addr) (cb H gh gp i : Nat) (s24 : Value) (W : World) : Prop :=
  ∃ j : Nat, j ≤ lenI (aheadL l) n i ∧ s24 = .int .i64 j ∧ J (offI (aheadL l) n i + j) W ∧ LaidM l n B cb H gh gp W

theorem lenHd : Tryd.prog.arrayLen THd = 4 := by kernel_rfl
theorem elemHd : Tryd.prog.elem THd = TB := by kernel_rfl
theorem sizeTB (w : World) : (sizeOf TB).run Tryd.prog w = .ok 1 w := by kernel_rfl
/-- 'h[:a]' of a head -/
theorem slice_head (g a : Nat) (ha : a ≤ 4) (w : World) : (Instr.sliceAt THd (.pointer (some ⟨g, 0, none⟩)) none (some (.int .i64 (a : Int))) none).run Tryd.prog w = .ok (.slice (some ⟨g, 0, none⟩) a 4) w := by
  have h := run_sliceAt_array_h (P := Tryd.prog) w THd ⟨g, 0, none⟩ (by rw [lenHd, elemHd]; exact Tryd.underlying64) .i64 (a : Int) (by omega) (by rw [lenHd]; omega)
  rw [h, elemHd, sizeTB, lenHd]
  simp [Result.andThen, slicedAt, Addr.add]

set_option maxRecDepth 100000 in
set_option maxHeartbeats 4000000 in
theorem laid_hand (m b bb bl : Nat) (l : Int) (n : Nat) (B : Option Addr) (cb : Nat) (f : Nat → Nat) (hn : n ≤ 1000000) (hm : 1 ≤ m) :
    HandsK m Tryd.prog 36 #[.pointer (some ⟨bb, 0, none⟩), .pointer (some ⟨bl, 0, none⟩)] (fun x : Nat => #[.int .u8 x]) (aheadL l + n) (LaidT b bb bl l n B cb f) (LaidX l n f) := by
  intro lp J W hJT hJa hY h0
  have HT := Lib.hid hJT
  have HJA := Lib.hid hJa
  have HY := Lib.hid hY
  have H0 := Lib.hid h0
  clear hJT hJa hY h0
  refine callsIn_of_wp Tryd.func36 rfl trivial ?_ rfl
  simp only [Tryd.ntmps36, List.size_toArray, List.length_cons, List.length_nil, Nat.reduceAdd, Nat.reduceSub, Array.replicate_succ, Array.replicate_zero, List.push_toArray, List.append_toArray, List.nil_append, List.cons_append]
  obtain ⟨t1, t2, t3⟩ := HT.out 0 W H0.out
  gi_wp2_with fail
  refine ⟨trivial, (callsIn_wide.2 (headOf37 n hn W)).mono ?_⟩
  rintro e W1 ⟨rfl, hb1⟩
  have u1 := (hb1.cell (lt_of_cell t1)).trans t1
  have u2 := (hb1.cell (lt_of_cell t2)).trans t2
  obtain ⟨x0, e0⟩ : ∃ x, n / 16777216 % 256 = x := ⟨_, rfl⟩
  obtain ⟨x1, e1⟩ : ∃ x, n / 65536 % 256 = x := ⟨_, rfl⟩
  obtain ⟨x2, e2⟩ : ∃ x, n / 256 % 256 = x := ⟨_, rfl⟩
  obtain ⟨x3, e3⟩ : ∃ x, n % 256 = x := ⟨_, rfl⟩
  rw [e0, e1, e2, e3]
  obtain ⟨W2, hW2⟩ : ∃ W2, W1.alloc (.cells #[.int .u8 x0, .int .u8 x1, .int .u8 x2, .int .u8 x3] THd) = W2 := ⟨_, rfl⟩
  have hs2 : W2.heap.size = W1.heap.size + 1 := by rw [← hW2]; simp
  have hb2 : Below W1.heap.size W1 W2 := by rw [← hW2]; exact below_alloc W1 _
  have hhead : W2.rowIs W1.heap.size THd 4 (u8s fun i => laidB 4 n (fun _ => 0) i) := by
    rw [← hW2]
    refine World.rowIs_alloc W1 _ THd _ (fun i hi => ?_)
    obtain ⟨g0, g1, g2, g3⟩ := laidB_head (n := n) (f := fun _ => 0)
    simp at hi
    match i, hi with
    | 0, _ => simp [g0, e0]
    | 1, _ => simp [g1, e1]
    | 2, _ => simp [g2, e2]
    | 3, _ => simp [g3, e3]
  have hl1 : W.heap.size ≤ W1.heap.size := hb1.size
  have v1 := (hb2.cell (lt_of_cell u1)).trans u1
  have v2 := (hb2.cell (lt_of_cell u2)).trans u2
  have HH := Lib.hid hhead
  have HS2 := Lib.hid hs2
  have HB2 := Lib.hid (hb1.trans (hb2.mono hb1.size))
  have ha4 := aheadL_le l
  clear hhead e0 e1 e2 e3 u1 u2 hb2 hs2
  gi_wp2_with fail
  refine wpIn_wide.2 ?_
  go_cut [16, 17, 18] from 12 to 18 (fun s16 s17 s18 wr => LaidAt l n B cb W.heap.size W2 s16 s17 s18 wr)
  case first =>
    have KS := Lib.hid (show ∀ w', Below W2.heap.size W2 w' → w'.cell? ⟨bb, 0, none⟩ = some (.slice B n cb) ∧ w'.cell? ⟨bl, 0, none⟩ = some (.int .u8 l) from fun w' h => ⟨(h.cell (lt_of_cell v1)).trans v1, (h.cell (lt_of_cell v2)).trans v2⟩)
    have hS : Below W2.heap.size W2 W2.drew := (Below.refl _ W2).drew
    refine region_plain (fun w' => Below W2.heap.size W2 w') 7 rfl (by kernel_rfl) ?_
    refine takeL (i := 0) (v := .int .u8 l) rfl (by kernel_rfl) (by kernel_rfl) (by kernel_rfl) rfl (fun w' hSw => ?tk0) hS ?_
    case tk0 =>
      have := KS.out w' hSw
      go_simp
    simp only [Act.put, List.setIfInBounds_toArray, List.set_cons_zero, List.set_cons_succ]
    refine takeL (i := 3) (v := .slice B n cb) rfl (by kernel_rfl) (by kernel_rfl) (by kernel_rfl) rfl (fun w' hSw => ?tk3) hS ?_
    case tk3 =>
      have := KS.out w' hSw
      go_simp
    simp only [Act.put, List.setIfInBounds_toArray, List.set_cons_zero, List.set_cons_succ]
    refine takeL (i := 6) (v := .int .i64 0) rfl (by kernel_rfl) (by kernel_rfl) (by kernel_rfl) rfl (fun w' hSw => ?tk6) hS ?_
    case tk6 => go_simp
    simp only [Act.put, List.setIfInBounds_toArray, List.set_cons_zero, List.set_cons_succ]
    refine stepL (i := 1) (by kernel_rfl) rfl rfl (fun K hK => ?_)
    go_simp
    refine (ahead24 l _).mono ?_
    rintro e w4 ⟨rfl, rfl⟩
    dsimp only
    refine hK _ _ hS ?_
    clear hK K
    try simp only [Act.put, List.setIfInBounds_toArray, List.set_cons_zero, List.set_cons_succ]
    refine takeL (i := 2) (v := .slice (some ⟨W1.heap.size, 0, none⟩) (aheadL l) 4) rfl (by kernel_rfl) (by kernel_rfl) (by kernel_rfl) rfl (fun w' hSw => ?tk2) hS ?_
    case tk2 =>
      have hsl := slice_head W1.heap.size (aheadL l) ha4 w'
      go_simp
    try simp only [Act.put, List.setIfInBounds_toArray, List.set_cons_zero, List.set_cons_succ]
    refine stepL (i := 4) (by kernel_rfl) rfl rfl (fun K hK => ?_)
    have hS6 := hS.alloc hS.size (.cells #[.slice (some ⟨W1.heap.size, 0, none⟩) (aheadL l) 4, .slice B n cb] TBs)
    have hparts := World.rowIs_alloc W2.drew #[.slice (some ⟨W1.heap.size, 0, none⟩) (aheadL l) 4, .slice B n cb] TBs (slis (partA W1.heap.size B) (lenI (aheadL l) n) (partC cb)) (fun i hi => by
      simp at hi
      match i, hi with
      | 0, _ => rfl
      | 1, _ => rfl)
    have HE := Lib.hid (show LaidM l n B cb W.heap.size W1.heap.size W2.heap.size _ from ⟨⟨hl1, by have := HS2.out; omega⟩, HH.out.of_block (hS6.block _ HH.out.lt), hparts⟩)
    clear hparts
    go_simp
    refine hK _ _ hS6 ?_
    clear hK K
    try simp only [Act.put, List.setIfInBounds_toArray, List.set_cons_zero, List.set_cons_succ]
    refine takeL (i := 5) (v := .int .i64 2) rfl (by kernel_rfl) (by kernel_rfl) (by kernel_rfl) rfl (fun w' hSw => ?tk5) hS6 ?_
    case tk5 => go_simp
    try simp only [Act.put, List.setIfInBounds_toArray, List.set_cons_zero, List.set_cons_succ]
    refine wpAnyH_done (by kernel_rfl) ?_ _
    dsimp only [OnlyN]
    go_wp2_with fail
    go_meet
    case rel => exact ⟨_, _, rfl, rfl, rfl, HE.out, hS6⟩
  case rest =>
    obtain ⟨gh, gp, rfl, rfl, rfl, hM, hbc⟩ := hcut
    have HST := Lib.hid (show LaidO J l n B cb W.heap.size gh gp (.int .i64 0) wc from ⟨0, by omega, rfl, HJA.out _ _ _ H0.out (HB2.out.trans (hbc.mono HB2.out.size)), hM⟩)
    have ha4 := aheadL_le l
    clear hM hbc t1 t2 t3 v1 v2 HH HB2 H0 hb1 hW2
    gi_wp2_with fail
    gi_loopw [18] (fun s18 wr => LaidO J l n B cb W.heap.size gh gp s18 wr) (fun s18 _ => 2 - (intOf s18).toNat)
    case atStart => exact HST.out
    case round =>
      clear HST
      obtain ⟨i, hi, rfl, hJ, hM⟩ := hrel
      by_cases hlt : i < 2
      · have hc := hM.parts.cell hlt
        simp only [slis] at hc
        have hlen : lenI (aheadL l) n i ≤ 1000004 := by unfold lenI; split <;> omega
        have HST := Lib.hid (show LaidN J l n B cb W.heap.size gh gp i (.int .i64 0) wr from ⟨0, Nat.zero_le _, rfl, hJ, hM⟩)
        have HOF := Lib.hid (offI_step (a := aheadL l) (n := n) hlt)
        have HLE := Lib.hid (fun j hj => offI_le (a := aheadL l) (n := n) (j := j) hlt hj)
        have HBY := Lib.hid (fun (W' : World) (j : Nat) (h : LaidM l n B cb W.heap.size gh gp W') hT (hj : j < lenI (aheadL l) n i) => h.byte (b := b) (bb := bb) (bl := bl) (f := f) hT hlt hj)
        obtain ⟨L, hL⟩ : ∃ L, lenI (aheadL l) n i = L := ⟨_, rfl⟩
        obtain ⟨A, hA⟩ : ∃ A, partA gh B i = A := ⟨_, rfl⟩
        obtain ⟨c, hcc⟩ : ∃ c, partC cb i = c := ⟨_, rfl⟩
        have HL := Lib.hid hL
        rw [hL] at hc hlen HOF HLE HBY
        rw [hA] at hc HBY
        rw [hcc] at hc
        clear hJ hM hL hA hcc ha4
        have hd2 : decide ((i : Int) < 2) = true := by simp; omega
        gi_wp2_with fail
        gi_loopw [24] (fun s24 wr' => LaidN J l n B cb W.heap.size gh gp i s24 wr') (fun s24 _ => L - (intOf s24).toNat)
        case atStart => exact HST.out
        case round =>
          clear HST hc
          obtain ⟨j, hj, rfl, hJ, hM⟩ := hrel
          rw [HL.out] at hj
          by_cases hlt2 : j < L
          · have hsz : W.heap.size ≤ wr.heap.size := Nat.le_of_lt (Nat.lt_of_le_of_lt hM.low.1 hM.head.lt)
            obtain ⟨ad, e1, e2⟩ := HBY.out _ _ hM (HT.out _ _ hJ) hlt2
            obtain ⟨fn, tmps, assign, body, hy, hR⟩ := HY.out _ _ wr hJ (HLE.out j hlt2) rfl hsz
            have HM := Lib.hid hM
            clear hJ hM
            rw [e1]
            obtain ⟨x, hx⟩ : ∃ x, laidB (aheadL l) n f (offI (aheadL l) n i + j) = x := ⟨_, rfl⟩
            rw [hx] at e2 hy
            clear hx e1
            gi_wp2_with fail
            refine hR.mono ?_
            rintro e W3 ⟨rfl, hJ3, hk3⟩
            have HS := Lib.hid (show LaidN J l n B cb W.heap.size gh gp i (.int .i64 ((j : Int) + 1)) W3 from ⟨j + 1, by rw [HL.out]; exact hlt2, rfl, hJ3, HM.out.kept hk3⟩)
            clear hJ3 hk3 hy hR e2 HM
            gi_wp2_with fail
            exact ⟨HS.out, by simp [intOf]; omega⟩
          · obtain rfl : j = L := by omega
            have HS := Lib.hid (show LaidO J l n B cb W.heap.size gh gp (.int .i64 ((i : Int) + 1)) wr from ⟨i + 1, by omega, rfl, by rw [← HOF.out]; exact hJ, hM⟩)
            clear hJ hM
            gi_wp2_with fail
            exact ⟨HS.out, by simp [intOf]; omega⟩
      · obtain rfl : i = 2 := by omega
        have HJ := Lib.hid hJ
        clear hJ hM
        gi_wp2_with fail
        go_end0
        exact ⟨⟨_, rfl⟩, HJ.out⟩
end Go.Proofs.YtalallkpejlclaaDoor
