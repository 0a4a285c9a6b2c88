/- Layer 10: what is laid, told by a function that is ranged over. Layer 10: the contract of Split. Layer 10: contracts of the document's laid and Split. -/
import Derived.Test.YtgdgimknnjbieaaGreatDoorGxx
import Derived.Test.YtgdgimknnjbieaaGreatDoorRfh
import Derived.Shelf.Abstract
import Derived.Shelf.RegionOpen
import Derived.OwnWalkIn
import Derived.TacticsInMore
import Derived.LoopNIn
import Derived.LoopIn
import Derived.Deep.Cut
import Derived.Deep.CutRange

namespace Go.Proofs.YtgdgimknnjbieaaGreatDoor
open Go.RowKit Go.Shelf
attribute [local go_sem] Oper.semAt_some

set_option maxRecDepth 100000 in
theorem laid27 (l : Int) (B : Option Addr) (n cb : Nat) (w : World) :
    Calls Tryz.prog 92 #[.int .u8 l, .slice B n cb] w fun e w' => e = .returned (.func (.func 140) #[] #[.pointer (some ⟨w.heap.size + 1, 0, none⟩), .pointer (some ⟨w.heap.size, 0, none⟩)]) ∧ (w.alloc (.cells #[.int .u8 l] TB)).alloc (.cells #[.slice B n cb] TBs) = w' := by
  have hmf : ∀ (fn : Fn) (first cap : Array Value) (w : World), (Instr.makeFunc fn first cap).run Tryz.prog w = .ok (.func fn first cap) w := fun _ _ _ _ => rfl
  go_enter Tryz.func92, Tryz.ntmps92
  go_wp2_with fail
  go_ret
  exact ⟨rfl, rfl⟩

/-- what is laid is told from -/
def LaidT (b bb bl : Nat) (l : Int) (n : Nat) (B : Option Addr) (cb : Nat) (f : Nat → Nat) (W : World) : Prop :=
  W.cell? ⟨bb, 0, none⟩ = some (.slice B n cb) ∧ W.cell? ⟨bl, 0, none⟩ = some (.int .u8 l) ∧ Rd b W (u8s f) B n
/-- the j-th byte -/
def LaidX (l : Int) (n : Nat) (f : Nat → Nat) (j x : Nat) (_ : World) : Prop := x = laidB (aheadL l) n f j

/-- where part i begins, and how long it is -/
def offI (a n i : Nat) : Nat := if i = 0 then 0 else if i = 1 then a else a + n
def lenI (a n i : Nat) : Nat := if i = 0 then a else n
def partA (gh : Nat) (B : Option Addr) (i : Nat) : Option Addr := if i = 0 then some ⟨gh, 0, none⟩ else B
def partC (cb i : Nat) : Nat := if i = 0 then 4 else cb
/-- where the head and both parts lie -/
structure LaidM (l : Int) (n : Nat) (B : Option Addr) (cb : Nat) (H gh gp : Nat) (W : World) : Prop where
  low : H ≤ gh ∧ H ≤ gp
  head : W.rowIs gh THd 4 (u8s fun i => laidB 4 n (fun _ => 0) i)
  parts : W.rowIs gp TBs 2 (slis (partA gh B) (lenI (aheadL l) n) (partC cb))
theorem LaidM.kept {l : Int} {n : Nat} {B : Option Addr} {cb H gh gp : Nat} {W W' : World} (h : LaidM l n B cb H gh gp W) (hk : KeptFrom H W W') : LaidM l n B cb H gh gp W' :=
  ⟨h.low, h.head.of_block (hk.block gh h.low.1 h.head.lt), h.parts.of_block (hk.block gp h.low.2 h.parts.lt)⟩
def LaidAt (l : Int) (n : Nat) (B : Option Addr) (cb H : Nat) (W1 : World) (s16 s17 s18 : Value) (W : World) : Prop :=
  ∃ gh gp, s16 = .slice (some ⟨gp, 0, none⟩) 2 2 ∧ s17 = .int .i64 2 ∧ s18 = .int .i64 0 ∧ LaidM l n B cb H gh gp W ∧ Below W1.heap.size W1 W

theorem offI_step {a n i : Nat} (hi : i < 2) : offI a n i + lenI a n i = offI a n (i + 1) := by
  match i, hi with
  | 0, _ => simp [offI, lenI]
  | 1, _ => simp [offI, lenI]
theorem offI_le {a n i j : Nat} (hi : i < 2) (hj : j < lenI a n i) : offI a n i + j < a + n := by
  match i, hi with
  | 0, _ => simp [offI, lenI] at *; omega
  | 1, _ => simp [offI, lenI] at *; omega
theorem LaidM.byte {l : Int} {n : Nat} {B : Option Addr} {cb H gh gp b bb bl : Nat} {f : Nat → Nat} {W : World} (h : LaidM l n B cb H gh gp W) (hT : LaidT b bb bl l n B cb f W) {i j : Nat} (hi : i < 2) (hj : j < lenI (aheadL l) n i) :
    ∃ ad, partA gh B i = some ad ∧ W.cell? (ad.add j) = some (.int .u8 (laidB (aheadL l) n f (offI (aheadL l) n i + j) : Nat)) := by
  match i, hi with
  | 0, _ =>
    have ha : aheadL l = 4 := by
      unfold lenI aheadL at *
      simp at hj
      split at hj
      · rw [if_pos ‹_›]
      · omega
    refine ⟨⟨gh, 0, none⟩, rfl, ?_⟩
    have hh := h.head.cell (i := j) (by unfold lenI at hj; simp at hj; omega)
    rw [ha]
    rw [show (⟨gh, 0, none⟩ : Addr).add j = ⟨gh, j, none⟩ by unfold Addr.add; split <;> simp_all, hh]
    simp only [u8s, offI, if_pos, Nat.zero_add]
    unfold lenI at hj
    simp at hj
    unfold laidB
    rw [if_pos (by omega), if_pos (by omega)]
  | 1, _ =>
    simp only [lenI] at hj ⊢
    simp at hj ⊢
    obtain ⟨ad, rfl, hb⟩ := hT.2.2.at_ hj
    refine ⟨ad, rfl, ?_⟩
    rw [hb]
    simp only [u8s, offI]
    simp [laidB_at hj]
/-- between the parts, and within one -/
def LaidO (J : Nat → World → Prop) (l : Int) (n : Nat) (B : Option Addr) (cb H gh gp : Nat) (s18 : Value) (W : World) : Prop :=
  ∃ i : Nat, i ≤ 2 ∧ s18 = .int .i64 i ∧ J (offI (aheadL l) n i) W ∧ LaidM l n B cb H gh gp W
def LaidN (J : Nat → World → Prop) (l : Int) (n : Nat) (B : Option Addr) (cb H gh gp i : Nat) (s24 : Value) (W : World) : Prop :=
  ∃ j : Nat, j ≤ lenI (aheadL l) n i ∧ s24 = .int .i64 j ∧ J (offI (aheadL l) n i + j) W ∧ LaidM l n B cb H gh gp W

theorem lenHd : Tryz.prog.arrayLen THd = 4 := by kernel_rfl
theorem elemHd : Tryz.prog.elem THd = TB := by kernel_rfl
theorem sizeTB (w : World) : (sizeOf TB).run Tryz.prog w = .ok 1 w := by kernel_rfl
/-- 'h[:a]' of a head -/
theorem slice_head (g a : Nat) (ha : a ≤ 4) (w : World) : (Instr.sliceAt THd (.pointer (some ⟨g, 0, none⟩)) none (some (.int .i64 (a : Int))) none).run Tryz.prog w = .ok (.slice (some ⟨g, 0, none⟩) a 4) w := by
  have h := run_sliceAt_array_h (P := Tryz.prog) w THd ⟨g, 0, none⟩ (by rw [lenHd, elemHd]; exact Tryz.underlying186) .i64 (a : Int) (by omega) (by rw [lenHd]; omega)
  rw [h, elemHd, sizeTB, lenHd]
  simp [Result.andThen, slicedAt, Addr.add]

set_option maxRecDepth 100000 in
set_option maxHeartbeats 4000000 in
theorem laid_hand (m b bb bl : Nat) (l : Int) (n : Nat) (B : Option Addr) (cb : Nat) (f : Nat → Nat) (hn : n ≤ 1000000) (hm : 1 ≤ m) :
    HandsK m Tryz.prog 140 #[.pointer (some ⟨bb, 0, none⟩), .pointer (some ⟨bl, 0, none⟩)] (fun x : Nat => #[.int .u8 x]) (aheadL l + n) (LaidT b bb bl l n B cb f) (LaidX l n f) := by
  intro lp J W hJT hJa hY h0
  have HT := Lib.hid hJT
  have HJA := Lib.hid hJa
  have HY := Lib.hid hY
  have H0 := Lib.hid h0
  clear hJT hJa hY h0
  refine callsIn_of_wp Tryz.func140 rfl trivial ?_ rfl
  simp only [Tryz.ntmps140, List.size_toArray, List.length_cons, List.length_nil, Nat.reduceAdd, Nat.reduceSub, Array.replicate_succ, Array.replicate_zero, List.push_toArray, List.append_toArray, List.nil_append, List.cons_append]
  obtain ⟨t1, t2, t3⟩ := HT.out 0 W H0.out
  gi_wp2_with fail
  refine ⟨trivial, (callsIn_wide.2 (headOf37 n hn W)).mono ?_⟩
  rintro e W1 ⟨rfl, hb1⟩
  have u1 := (hb1.cell (lt_of_cell t1)).trans t1
  have u2 := (hb1.cell (lt_of_cell t2)).trans t2
  obtain ⟨x0, e0⟩ : ∃ x, n / 16777216 % 256 = x := ⟨_, rfl⟩
  obtain ⟨x1, e1⟩ : ∃ x, n / 65536 % 256 = x := ⟨_, rfl⟩
  obtain ⟨x2, e2⟩ : ∃ x, n / 256 % 256 = x := ⟨_, rfl⟩
  obtain ⟨x3, e3⟩ : ∃ x, n % 256 = x := ⟨_, rfl⟩
  rw [e0, e1, e2, e3]
  obtain ⟨W2, hW2⟩ : ∃ W2, W1.alloc (.cells #[.int .u8 x0, .int .u8 x1, .int .u8 x2, .int .u8 x3] THd) = W2 := ⟨_, rfl⟩
  have hs2 : W2.heap.size = W1.heap.size + 1 := by rw [← hW2]; simp
  have hb2 : Below W1.heap.size W1 W2 := by rw [← hW2]; exact below_alloc W1 _
  have hhead : W2.rowIs W1.heap.size THd 4 (u8s fun i => laidB 4 n (fun _ => 0) i) := by
    rw [← hW2]
    refine World.rowIs_alloc W1 _ THd _ (fun i hi => ?_)
    obtain ⟨g0, g1, g2, g3⟩ := laidB_head (n := n) (f := fun _ => 0)
    simp at hi
    match i, hi with
    | 0, _ => simp [g0, e0]
    | 1, _ => simp [g1, e1]
    | 2, _ => simp [g2, e2]
    | 3, _ => simp [g3, e3]
  have hl1 : W.heap.size ≤ W1.heap.size := hb1.size
  have v1 := (hb2.cell (lt_of_cell u1)).trans u1
  have v2 := (hb2.cell (lt_of_cell u2)).trans u2
  have HH := Lib.hid hhead
  have HS2 := Lib.hid hs2
  have HB2 := Lib.hid (hb1.trans (hb2.mono hb1.size))
  have ha4 := aheadL_le l
  clear hhead e0 e1 e2 e3 u1 u2 hb2 hs2
  gi_wp2_with fail
  refine wpIn_wide.2 ?_
  go_cut [16, 17, 18] from 12 to 18 (fun s16 s17 s18 wr => LaidAt l n B cb W.heap.size W2 s16 s17 s18 wr)
  case first =>
    have KS := Lib.hid (show ∀ w', Below W2.heap.size W2 w' → w'.cell? ⟨bb, 0, none⟩ = some (.slice B n cb) ∧ w'.cell? ⟨bl, 0, none⟩ = some (.int .u8 l) from fun w' h => ⟨(h.cell (lt_of_cell v1)).trans v1, (h.cell (lt_of_cell v2)).trans v2⟩)
    have hS : Below W2.heap.size W2 W2.drew := (Below.refl _ W2).drew
    refine region_plain (fun w' => Below W2.heap.size W2 w') 7 rfl (by kernel_rfl) ?_
    refine takeL (i := 0) (v := .int .u8 l) rfl (by kernel_rfl) (by kernel_rfl) (by kernel_rfl) rfl (fun w' hSw => ?tk0) hS ?_
    case tk0 =>
      have := KS.out w' hSw
      go_simp
    simp only [Act.put, List.setIfInBounds_toArray, List.set_cons_zero, List.set_cons_succ]
    refine takeL (i := 3) (v := .slice B n cb) rfl (by kernel_rfl) (by kernel_rfl) (by kernel_rfl) rfl (fun w' hSw => ?tk3) hS ?_
    case tk3 =>
      have := KS.out w' hSw
      go_simp
    simp only [Act.put, List.setIfInBounds_toArray, List.set_cons_zero, List.set_cons_succ]
    refine takeL (i := 6) (v := .int .i64 0) rfl (by kernel_rfl) (by kernel_rfl) (by kernel_rfl) rfl (fun w' hSw => ?tk6) hS ?_
    case tk6 => go_simp
    simp only [Act.put, List.setIfInBounds_toArray, List.set_cons_zero, List.set_cons_succ]
    refine stepL (i := 1) (by kernel_rfl) rfl rfl (fun K hK => ?_)
    go_simp
    refine (ahead24 l _).mono ?_
    rintro e w4 ⟨rfl, rfl⟩
    dsimp only
    refine hK _ _ hS ?_
    clear hK K
    try simp only [Act.put, List.setIfInBounds_toArray, List.set_cons_zero, List.set_cons_succ]
    refine takeL (i := 2) (v := .slice (some ⟨W1.heap.size, 0, none⟩) (aheadL l) 4) rfl (by kernel_rfl) (by kernel_rfl) (by kernel_rfl) rfl (fun w' hSw => ?tk2) hS ?_
    case tk2 =>
      have hsl := slice_head W1.heap.size (aheadL l) ha4 w'
      go_simp
    try simp only [Act.put, List.setIfInBounds_toArray, List.set_cons_zero, List.set_cons_succ]
    refine stepL (i := 4) (by kernel_rfl) rfl rfl (fun K hK => ?_)
    have hS6 := hS.alloc hS.size (.cells #[.slice (some ⟨W1.heap.size, 0, none⟩) (aheadL l) 4, .slice B n cb] TBs)
    have hparts := World.rowIs_alloc W2.drew #[.slice (some ⟨W1.heap.size, 0, none⟩) (aheadL l) 4, .slice B n cb] TBs (slis (partA W1.heap.size B) (lenI (aheadL l) n) (partC cb)) (fun i hi => by
      simp at hi
      match i, hi with
      | 0, _ => rfl
      | 1, _ => rfl)
    have HE := Lib.hid (show LaidM l n B cb W.heap.size W1.heap.size W2.heap.size _ from ⟨⟨hl1, by have := HS2.out; omega⟩, HH.out.of_block (hS6.block _ HH.out.lt), hparts⟩)
    clear hparts
    go_simp
    refine hK _ _ hS6 ?_
    clear hK K
    try simp only [Act.put, List.setIfInBounds_toArray, List.set_cons_zero, List.set_cons_succ]
    refine takeL (i := 5) (v := .int .i64 2) rfl (by kernel_rfl) (by kernel_rfl) (by kernel_rfl) rfl (fun w' hSw => ?tk5) hS6 ?_
    case tk5 => go_simp
    try simp only [Act.put, List.setIfInBounds_toArray, List.set_cons_zero, List.set_cons_succ]
    refine wpAnyH_done (by kernel_rfl) ?_ _
    dsimp only [OnlyN]
    go_wp2_with fail
    go_meet
    case rel => exact ⟨_, _, rfl, rfl, rfl, HE.out, hS6⟩
  case rest =>
    obtain ⟨gh, gp, rfl, rfl, rfl, hM, hbc⟩ := hcut
    have HST := Lib.hid (show LaidO J l n B cb W.heap.size gh gp (.int .i64 0) wc from ⟨0, by omega, rfl, HJA.out _ _ _ H0.out (HB2.out.trans (hbc.mono HB2.out.size)), hM⟩)
    have ha4 := aheadL_le l
    clear hM hbc t1 t2 t3 v1 v2 HH HB2 H0 hb1 hW2
    gi_wp2_with fail
    gi_loopw [18] (fun s18 wr => LaidO J l n B cb W.heap.size gh gp s18 wr) (fun s18 _ => 2 - (intOf s18).toNat)
    case atStart => exact HST.out
    case round =>
      clear HST
      obtain ⟨i, hi, rfl, hJ, hM⟩ := hrel
      by_cases hlt : i < 2
      · have hc := hM.parts.cell hlt
        simp only [slis] at hc
        have hlen : lenI (aheadL l) n i ≤ 1000004 := by unfold lenI; split <;> omega
        have HST := Lib.hid (show LaidN J l n B cb W.heap.size gh gp i (.int .i64 0) wr from ⟨0, Nat.zero_le _, rfl, hJ, hM⟩)
        have HOF := Lib.hid (offI_step (a := aheadL l) (n := n) hlt)
        have HLE := Lib.hid (fun j hj => offI_le (a := aheadL l) (n := n) (j := j) hlt hj)
        have HBY := Lib.hid (fun (W' : World) (j : Nat) (h : LaidM l n B cb W.heap.size gh gp W') hT (hj : j < lenI (aheadL l) n i) => h.byte (b := b) (bb := bb) (bl := bl) (f := f) hT hlt hj)
        obtain ⟨L, hL⟩ : ∃ L, lenI (aheadL l) n i = L := ⟨_, rfl⟩
        obtain ⟨A, hA⟩ : ∃ A, partA gh B i = A := ⟨_, rfl⟩
        obtain ⟨c, hcc⟩ : ∃ c, partC cb i = c := ⟨_, rfl⟩
        have HL := Lib.hid hL
        rw [hL] at hc hlen HOF HLE HBY
        rw [hA] at hc HBY
        rw [hcc] at hc
        clear hJ hM hL hA hcc ha4
        have hd2 : decide ((i : Int) < 2) = true := by simp; omega
        gi_wp2_with fail
        gi_loopw [24] (fun s24 wr' => LaidN J l n B cb W.heap.size gh gp i s24 wr') (fun s24 _ => L - (intOf s24).toNat)
        case atStart => exact HST.out
        case round =>
          clear HST hc
          obtain ⟨j, hj, rfl, hJ, hM⟩ := hrel
          rw [HL.out] at hj
          by_cases hlt2 : j < L
          · have hsz : W.heap.size ≤ wr.heap.size := Nat.le_of_lt (Nat.lt_of_le_of_lt hM.low.1 hM.head.lt)
            obtain ⟨ad, e1, e2⟩ := HBY.out _ _ hM (HT.out _ _ hJ) hlt2
            obtain ⟨fn, tmps, assign, body, hy, hR⟩ := HY.out _ _ wr hJ (HLE.out j hlt2) rfl hsz
            have HM := Lib.hid hM
            clear hJ hM
            rw [e1]
            obtain ⟨x, hx⟩ : ∃ x, laidB (aheadL l) n f (offI (aheadL l) n i + j) = x := ⟨_, rfl⟩
            rw [hx] at e2 hy
            clear hx e1
            gi_wp2_with fail
            refine hR.mono ?_
            rintro e W3 ⟨rfl, hJ3, hk3⟩
            have HS := Lib.hid (show LaidN J l n B cb W.heap.size gh gp i (.int .i64 ((j : Int) + 1)) W3 from ⟨j + 1, by rw [HL.out]; exact hlt2, rfl, hJ3, HM.out.kept hk3⟩)
            clear hJ3 hk3 hy hR e2 HM
            gi_wp2_with fail
            exact ⟨HS.out, by simp [intOf]; omega⟩
          · obtain rfl : j = L := by omega
            have HS := Lib.hid (show LaidO J l n B cb W.heap.size gh gp (.int .i64 ((i : Int) + 1)) wr from ⟨i + 1, by omega, rfl, by rw [← HOF.out]; exact hJ, hM⟩)
            clear hJ hM
            gi_wp2_with fail
            exact ⟨HS.out, by simp [intOf]; omega⟩
      · obtain rfl : i = 2 := by omega
        have HJ := Lib.hid hJ
        clear hJ hM
        gi_wp2_with fail
        go_end0
        exact ⟨⟨_, rfl⟩, HJ.out⟩
end Go.Proofs.YtgdgimknnjbieaaGreatDoor

namespace Go.Proofs.YtgdgimknnjbieaaGreatDoor
open Go.RowKit Go.Shelf
attribute [local go_sem] Oper.semAt_some

/-- the shards: how many, and byte j of shard r -/
def splN (p k m n : Int) : Nat := if szE p k m n = 0 then k.toNat else 0
def splF (p : Int) (S n : Nat) (f : Nat → Nat) : Nat → Nat → Nat := fun r j => laidB (aheadL (layI p)) n f (r * S + j)
/-- what Split tells -/
def SplitSaid (p k m : Int) (n : Nat) (f : Nat → Nat) (w : World) (e : Ending) (w' : World) : Prop :=
  ∃ v, e = .returned (.tuple #[v, .int .i64 (szE p k m n)]) ∧ RowsTold (splN p k m n) (splF p (szN p k m n) n f) (fun _ => szN p k m n) w v w'
/-- .. and the rows have room for all their bytes -/
def SplitSaidC (p k m : Int) (n : Nat) (f : Nat → Nat) (w : World) (e : Ending) (w' : World) : Prop := SplitSaid p k m n f w e w' ∧ OutCaps e w'

/-- while the shards are made -/
structure SplA (K S gd gb gs B0 : Nat) (w4 : World) (k : Nat) (W : World) : Prop where
  row : W.rowIs gd TBs K (fun r => if r < k then sl (B0 + r) S else nilS)
  rows : ∀ r, r < k → W.rowIs (B0 + r) TB S (fun _ => .int .u8 0)
  size : W.heap.size = B0 + k
  box : W.cell? ⟨gb, 0, none⟩ = some (sl gd K)
  sbox : W.cell? ⟨gs, 0, none⟩ = some (.int .i64 S)
  turned : Turned gd w4 W

theorem SplA.step {K S gd gb gs B0 : Nat} {w4 : World} {k : Nat} {W : World} (h : SplA K S gd gb gs B0 w4 k W) (hk : k < K) (hb : gb ≠ gd) (hs : gs ≠ gd) (hd : gd < B0) :
    SplA K S gd gb gs B0 w4 (k + 1) ((W.alloc (.cells (madeCells #[.int .u8 0] S) TB)).setCell ⟨gd, k, none⟩ (sl W.heap.size S)).drew := by
  have hz := h.size
  have hbl := below_alloc W (.cells (madeCells #[.int .u8 0] S) TB)
  refine ⟨World.rowIs.drew ((((h.row.alloc _).set k (sl W.heap.size S))).congr (fun r _ => ?_)), fun r hr => World.rowIs.drew ?_, ?_, ?_, ?_, Turned.drew (Turned.setCell (h.turned.trans (Turned.of_below hbl)) _ _)⟩
  · rcases Nat.lt_trichotomy r k with e | e | e
    · rw [if_neg (by omega), if_pos e, if_pos (by omega)]
    · subst e; rw [if_pos rfl, if_pos (by omega), hz]
    · rw [if_neg (by omega), if_neg (by omega), if_neg (by omega)]
  · by_cases e : r = k
    · subst e
      have := World.rowIs_made W (.int .u8 0) S TB
      rw [hz] at this
      exact this.setOther (by simp; omega) _
    · exact ((h.rows r (by omega)).alloc _).setOther (by simp; omega) _
  · simp [World.setCell, World.drew, hz]; omega
  · show (World.setCell _ _ _).cell? _ = _
    rw [World.cell?_setCell_other _ _ _ _ (by simp)]
    exact (hbl.cell (lt_of_cell h.box)).trans h.box
  · show (World.setCell _ _ _).cell? _ = _
    rw [World.cell?_setCell_other _ _ _ _ (by simp)]
    exact (hbl.cell (lt_of_cell h.sbox)).trans h.sbox

theorem row_unique {r c X Y S : Nat} (hc : c < S) (hY : Y < S) (h : r * S + c = X * S + Y) : r = X ∧ c = Y := by
  have h1 : (r * S + c) / S = r := by rw [Nat.mul_comm, Nat.mul_add_div (by omega), Nat.div_eq_of_lt hc, Nat.add_zero]
  have h2 : (X * S + Y) / S = X := by rw [Nat.mul_comm, Nat.mul_add_div (by omega), Nat.div_eq_of_lt hY, Nat.add_zero]
  have h3 : r = X := by rw [← h1, ← h2, h]
  subst h3
  exact ⟨rfl, by omega⟩

/-- while the bytes are laid -/
structure SplI (l : Int) (n : Nat) (f : Nat → Nat) (B : Option Addr) (cb K S gd gb gs B0 bl bb : Nat) (w w8 : World) (j : Nat) (W : World) : Prop where
  below : Below w.heap.size w W
  row : W.rowIs gd TBs K (fun r => sl (B0 + r) S)
  rows : ∀ r, r < K → W.rowIs (B0 + r) TB S (fun c => .int .u8 ((if r * S + c < j then laidB (aheadL l) n f (r * S + c) else 0 : Nat)))
  place : W.rowIs (B0 + K) TI 1 (fun _ => .int .i64 j)
  box : W.cell? ⟨gb, 0, none⟩ = some (sl gd K)
  sbox : W.cell? ⟨gs, 0, none⟩ = some (.int .i64 S)
  bb : W.cell? ⟨bb, 0, none⟩ = some (.slice B n cb)
  bl : W.cell? ⟨bl, 0, none⟩ = some (.int .u8 l)
  size : w8.heap.size ≤ W.heap.size
theorem SplI.soft {l : Int} {n : Nat} {f : Nat → Nat} {B : Option Addr} {cb K S gd gb gs B0 bl bb : Nat} {w w8 : World} {j : Nat} {A A' : World} (h : SplI l n f B cb K S gd gb gs B0 bl bb w w8 j A) (hb : Below w8.heap.size A A')
    (h0 : w.heap.size ≤ w8.heap.size) (h1 : gd < w8.heap.size) (h2 : B0 + K < w8.heap.size) (h3 : gb < w8.heap.size) (h4 : gs < w8.heap.size) (h5 : bl < w8.heap.size) (h6 : bb < w8.heap.size) : SplI l n f B cb K S gd gb gs B0 bl bb w w8 j A' :=
  ⟨h.below.trans (hb.mono h0), h.row.of_block (hb.block _ h1), fun r hr => (h.rows r hr).of_block (hb.block _ (by omega)), h.place.of_block (hb.block _ h2),
    (hb.cell (p := ⟨gb, 0, none⟩) h3).trans h.box, (hb.cell (p := ⟨gs, 0, none⟩) h4).trans h.sbox, (hb.cell (p := ⟨bb, 0, none⟩) h6).trans h.bb, (hb.cell (p := ⟨bl, 0, none⟩) h5).trans h.bl, Nat.le_trans h.size hb.size⟩
theorem SplI.told {l : Int} {n : Nat} {f : Nat → Nat} {B : Option Addr} {b cb K S gd gb gs B0 bl bb : Nat} {w w8 : World} {j : Nat} {A : World} (h : SplI l n f B cb K S gd gb gs B0 bl bb w w8 j A) (hr : Rd b w (u8s f) B n) : LaidT b bb bl l n B cb f A := ⟨h.bb, h.bl, hr.below h.below⟩
theorem SplI.step {l : Int} {n : Nat} {f : Nat → Nat} {B : Option Addr} {cb K S gd gb gs B0 bl bb : Nat} {w w8 : World} {X Y : Nat} {W : World} (h : SplI l n f B cb K S gd gb gs B0 bl bb w w8 (X * S + Y) W) (hX : X < K) (hY : Y < S)
    (h0 : w.heap.size ≤ B0) (h1 : gd < B0) (h2 : B0 + K < w8.heap.size) (h3 : gb < B0) (h4 : gs < B0) (h5 : B0 + K < bl) (h6 : B0 + K < bb) :
    SplI l n f B cb K S gd gb gs B0 bl bb w w8 (X * S + Y + 1) ((W.setCell ⟨B0 + X, Y, none⟩ (.int .u8 (laidB (aheadL l) n f (X * S + Y)))).setCell ⟨B0 + K, 0, none⟩ (.int .i64 (((X * S + Y : Nat) : Int) + 1))) ∧
      KeptFrom w8.heap.size W ((W.setCell ⟨B0 + X, Y, none⟩ (.int .u8 (laidB (aheadL l) n f (X * S + Y)))).setCell ⟨B0 + K, 0, none⟩ (.int .i64 (((X * S + Y : Nat) : Int) + 1))) := by
  refine ⟨⟨(h.below.setCell (p := ⟨B0 + X, Y, none⟩) (by simp; omega) _).setCell (p := ⟨B0 + K, 0, none⟩) (by simp; omega) _, (h.row.setOther (by simp; omega) _).setOther (by simp; omega) _, fun r hr => ?_, ((h.place.setOther (by simp; omega) _).set 0 _).congr (fun i hi => ?_), ?_, ?_, ?_, ?_, by simpa [World.setCell] using h.size⟩,
    (KeptFrom.setCell (KeptFrom.setCell (KeptFrom.refl _ _) (by omega) _) (by omega) _)⟩
  · refine World.rowIs.setOther ?_ (by simp; omega) _
    by_cases e : r = X
    · subst e
      refine ((h.rows r hr).set Y _).congr (fun c hc => ?_)
      by_cases e : c = Y
      · subst e
        rw [if_pos rfl, if_pos (by omega)]
      · rw [if_neg e]
        by_cases e2 : r * S + c < r * S + Y
        · rw [if_pos e2, if_pos (by omega)]
        · rw [if_neg e2, if_neg (by omega)]
    · refine ((h.rows r hr).setOther (by simp; omega) _).congr (fun c hc => ?_)
      by_cases e2 : r * S + c < X * S + Y
      · rw [if_pos e2, if_pos (by omega)]
      · rw [if_neg e2, if_neg (fun e3 => e (row_unique hc hY (by omega)).1)]
  · obtain rfl : i = 0 := by omega
    rw [if_pos rfl]
    congr 1
  · rw [World.cell?_setCell_other _ _ _ _ (by simp), World.cell?_setCell_other _ _ _ _ (by simp)]; exact h.box
  · rw [World.cell?_setCell_other _ _ _ _ (by simp), World.cell?_setCell_other _ _ _ _ (by simp)]; exact h.sbox
  · rw [World.cell?_setCell_other _ _ _ _ (by simp), World.cell?_setCell_other _ _ _ _ (by simp)]; exact h.bb
  · rw [World.cell?_setCell_other _ _ _ _ (by simp), World.cell?_setCell_other _ _ _ _ (by simp)]; exact h.bl

theorem SplI.drew {l : Int} {n : Nat} {f : Nat → Nat} {B : Option Addr} {cb K S gd gb gs B0 bl bb : Nat} {w w8 : World} {j : Nat} {A : World} (h : SplI l n f B cb K S gd gb gs B0 bl bb w w8 j A) : SplI l n f B cb K S gd gb gs B0 bl bb w w8 j A.drew :=
  ⟨h.below.drew, h.row.drew, fun r hr => (h.rows r hr).drew, h.place.drew, h.box, h.sbox, h.bb, h.bl, h.size⟩
/-- when all is laid -/
theorem SplI.rows_told {p l : Int} {n : Nat} {f : Nat → Nat} {B : Option Addr} {cb K S gd gb gs B0 bl bb : Nat} {w w8 : World} {A : World} (h : SplI l n f B cb K S gd gb gs B0 bl bb w w8 (aheadL l + n) A) (hl : layI p = l) (h1 : w.heap.size ≤ gd) (h2 : gd < B0) :
    RowsTold K (splF p S n f) (fun _ => S) w (.slice (some ⟨gd, 0, none⟩) K K) A := by
  refine ⟨_, _, rfl, Nat.le_refl _, fun b hb => ⟨fun r => some ⟨B0 + r, 0, none⟩, fun _ => S, Rd.of_row (h.row.congr (fun r _ => rfl)) (by omega) (Nat.le_refl _), fun r hr => Rd.of_row ((h.rows r hr).congr (fun c _ => ?_)) (by omega) (Nat.le_refl _)⟩, h.below⟩
  simp only [u8s, splF]
  rw [hl]
  split
  · rfl
  · rw [laidB_out (by omega)]

theorem SplI.caps {l : Int} {n : Nat} {f : Nat → Nat} {B : Option Addr} {cb K S gd gb gs B0 bl bb : Nat} {w w8 : World} {j : Nat} {A : World} (h : SplI l n f B cb K S gd gb gs B0 bl bb w w8 j A) : Caps A (some ⟨gd, 0, none⟩) K := fun r hr ad e => by
  injection e with e
  subst e
  refine ⟨some ⟨B0 + r, 0, none⟩, S, S, ?_, Nat.le_refl _⟩
  have h1 := h.row.cell hr
  rw [show (⟨gd, 0, none⟩ : Addr).add r = ⟨gd, r, none⟩ by unfold Addr.add; split <;> simp_all]
  exact h1

theorem splN_no {p k m n : Int} (h : szE p k m n ≠ 0) : splN p k m n = 0 := if_neg h

set_option maxRecDepth 100000 in
theorem split_no (p k m : Int) (f : Nat → Nat) (B : Option Addr) (n cb : Nat) (w : World) (hT : Tab w) (hE : szE p k m n ≠ 0) :
    Calls Tryz.prog 51 #[.agg (parA p k m), .slice B n cb] w (SplitSaid p k m n f w) := by
  obtain ⟨v, hv⟩ : ∃ v, w.alloc (.cells #[.int .i64 p, .int .i64 k, .int .i64 m] TPa) = v := ⟨_, rfl⟩
  obtain ⟨_, e0, hbv⟩ := one_box hv
  have E0 := Lib.hid e0
  have HV := Lib.hid hbv
  have HT := Lib.hid (hT.below hbv)
  have HE := Lib.hid (show ∀ w', Below w.heap.size w w' → SplitSaid p k m n f w (.returned (.tuple #[nilS, .int .i64 (szE p k m n)])) w' from fun w' h => ⟨_, rfl, by rw [splN_no hE]; exact RowsTold.nil h⟩)
  have HSZ := Lib.hid (size10 p k m n v HT.out)
  unfold SizeSaid at HSZ
  obtain ⟨x, hx⟩ : ∃ x, szE p k m n = x := ⟨_, rfl⟩
  rw [hx] at HE HSZ hE
  have hne : (x != 0) = true := by simp [hE]
  clear hx hE e0 hbv hT
  obtain ⟨d0, d1, d2⟩ := box_three E0.out
  go_enter Tryz.func51, Tryz.ntmps51
  go_wp2_with fail
  refine HSZ.out.mono ?_
  rintro e w1 ⟨rfl, hb1⟩
  have H1 := Lib.hid (below_tr (below_tr HV.out hb1) (below_alloc w1 (.cells #[.int .i64 (szN p k m n)] TI)))
  clear hb1 d0 d1 d2
  go_wp2_with fail
  go_ret2
  exact HE.out _ H1.out

theorem sz_ok {p k m : Int} {n : Nat} (hE : szE p k m n = 0) : ∃ K : Nat, k = (K : Int) ∧ 1 ≤ K ∧ K ≤ 8 ∧ n ≤ 4096 ∧ mayX p k m := by
  unfold szE at hE
  split at hE
  · rename_i h
    split at hE
    · exact ⟨k.toNat, by have := h.1.2.1; omega, by have := h.1.2.1; omega, by have := h.1.2.1; omega, by omega, h.1⟩
    · omega
  · omega

set_option maxRecDepth 100000 in
set_option maxHeartbeats 4000000 in
theorem split_yes' (b : Nat) (p k m : Int) (f : Nat → Nat) (B : Option Addr) (n cb : Nat) (w : World) (hT : Tab w) (hr : Rd b w (u8s f) B n) (hE : szE p k m n = 0) :
    Calls Tryz.prog 51 #[.agg (parA p k m), .slice B n cb] w (SplitSaidC p k m n f w) := by
  obtain ⟨K, rfl, k1, k8, hn, hmay⟩ := sz_ok hE
  obtain ⟨v, hv⟩ : ∃ v, w.alloc (.cells #[.int .i64 p, .int .i64 (K : Int), .int .i64 m] TPa) = v := ⟨_, rfl⟩
  obtain ⟨_, e0, hbv⟩ := one_box hv
  have E0 := Lib.hid e0
  have HV := Lib.hid hbv
  have HT := Lib.hid (hT.below hbv)
  have HR := Lib.hid hr
  have hS : szN p K m n = szU (unitL (layI p)) K (aheadL (layI p) + n) := (szE_ok hmay hn).1
  have hS1 := szU_ge (u := unitL (layI p)) (K := K) (m := aheadL (layI p) + n) (unitL_pos _).1 k1
  have hS2 := szU_le (u := unitL (layI p)) (K := K) (m := aheadL (layI p) + n) (unitL_pos _).1 k1
  have hu := unitL_pos (layI p)
  have ha4 := aheadL_le (layI p)
  rw [← hS] at hS1 hS2
  have hEE : splN p K m n = K := (if_pos hE).trans (Int.toNat_natCast K)
  have HE := Lib.hid (show ∀ A c w', RowsTold K (splF p (szN p K m n) n f) (fun _ => szN p K m n) w (.slice A K c) w' → Caps w' A K → SplitSaidC p K m n f w (.returned (.tuple #[.slice A K c, .int .i64 0])) w' from fun A c w' h hc => ⟨⟨_, by rw [hE], by rw [hEE]; exact h⟩, OutCaps.of hc⟩)
  have HSZ := Lib.hid (size10 p K m n v HT.out)
  unfold SizeSaid at HSZ
  obtain ⟨S, hSS⟩ : ∃ S, szN p K m n = S := ⟨_, rfl⟩
  rw [hE, hSS] at HSZ
  rw [hSS] at HE hS1 hS2
  have s1 : 1 ≤ S := by omega
  have s2 : S ≤ 5000 := by omega
  have HKS := Lib.hid hS1.1
  obtain ⟨l, hl⟩ : ∃ l, layI p = l := ⟨_, rfl⟩
  have HL := Lib.hid hl
  rw [hl] at HKS ha4
  clear e0 hbv hT hr hS hS1 hS2 hu hEE hSS hmay hE hl
  have hmkD := run_make_row' (P := Tryz.prog) TRs TBs nilS 24 Tryz.underlying24 infoS rfl .i64 .i64 K (by omega) (by omega)
  have hmkB := run_make_row' (P := Tryz.prog) TBs TB (.int .u8 0) 1 Tryz.underlying35 infoB rfl .i64 .i64 S (by omega) (by omega)
  refine (callsIn_wide (n := 5)).1 ?_
  refine callsIn_of_wp_marks Tryz.func51 rfl trivial ?_ rfl
  simp only [Tryz.ntmps51, List.size_toArray, List.length_cons, List.length_nil, Nat.reduceAdd, Nat.reduceSub, Array.replicate_succ, Array.replicate_zero, List.push_toArray, List.append_toArray, List.nil_append, List.cons_append]
  obtain ⟨d0, d1, d2⟩ := box_three E0.out
  gi_wp2_with fail
  refine ⟨trivial, (callsIn_wide.2 HSZ.out).mono ?_⟩
  rintro e w1 ⟨rfl, hb1⟩
  have H1 := Lib.hid (below_tr HV.out hb1)
  have HT1 := Lib.hid (HT.out.below hb1)
  have E1 := Lib.hid (kept_box E0.out hb1)
  obtain ⟨w2, hw2⟩ : ∃ w2, w1.alloc (.cells #[.int .i64 S] TI) = w2 := ⟨_, rfl⟩
  have hb2 : Below w1.heap.size w1 w2 := by rw [← hw2]; exact below_alloc _ _
  have hs2 : w2.heap.size = w1.heap.size + 1 := by rw [← hw2]; simp
  have hsb : w2.cell? ⟨w1.heap.size, 0, none⟩ = some (.int .i64 S) := by rw [← hw2]; simp
  obtain ⟨g0, g1, g2⟩ := box_three (kept_box E1.out hb2)
  obtain ⟨w4, hw4⟩ : ∃ w4, (w2.alloc (.cells (madeCells #[nilS] K) TBs)).alloc (.cells #[.slice (some ⟨w2.heap.size, 0, none⟩) K K] TRs) = w4 := ⟨_, rfl⟩
  have hb4 : Below w2.heap.size w2 w4 := by rw [← hw4]; exact (below_alloc w2 _).alloc (by simp) _
  have hs4 : w4.heap.size = w2.heap.size + 2 := by rw [← hw4]; simp
  have HA0 := Lib.hid (show SplA K S w2.heap.size (w2.heap.size + 1) w1.heap.size w4.heap.size w4 0 w4 from by
    refine ⟨?_, fun r hr => absurd hr (by omega), rfl, ?_, (hb4.cell (lt_of_cell hsb)).trans hsb, Turned.refl _ _⟩
    · rw [← hw4]
      exact ((World.rowIs_made w2 nilS K TBs).alloc _).congr (fun r _ => by rw [if_neg (by omega)])
    · rw [← hw4]; simp)
  have H4 := Lib.hid (below_tr (below_tr H1.out hb2) hb4)
  have HT4 := Lib.hid (HT1.out.below (below_tr hb2 hb4))
  have E4 := Lib.hid (kept_box E1.out (below_tr hb2 hb4))
  have HS2 := Lib.hid hs2
  have HS4 := Lib.hid hs4
  have hgs : w1.heap.size ≠ w2.heap.size := by omega
  have hgs4 : w1.heap.size < w4.heap.size := by omega
  have hgd4 : w2.heap.size < w4.heap.size := by omega
  have hgb4 : w2.heap.size + 1 < w4.heap.size := by omega
  clear hb1 d0 d1 d2 HT HSZ hb2 hsb hs2 hb4 hs4
  obtain ⟨gd, hgd⟩ : ∃ gd, w2.heap.size = gd := ⟨_, rfl⟩
  obtain ⟨gs, hgs'⟩ : ∃ gs, w1.heap.size = gs := ⟨_, rfl⟩
  obtain ⟨B0, hB0⟩ : ∃ B0, w4.heap.size = B0 := ⟨_, rfl⟩
  rw [hgd, hgs', hB0] at HA0
  rw [hgd, hgs'] at hgs
  rw [hgs', hB0] at hgs4
  rw [hgd, hB0] at hgd4 hgb4
  rw [hgd] at hw4
  have HB0 := Lib.hid hB0
  clear hB0
  have b4 := HA0.out.box
  have hlo : w.heap.size < gd := by
    have h2 := HS2.out
    have h3 := lt_of_cell (box_three E1.out).1
    dsimp only at h3
    omega
  gi_wp2_with fail
  clear b4 g0 g1 g2 hw2 hw4 hgd hgs'
  gi_loopw [27] (fun s27 wr => ∃ r : Nat, r ≤ K ∧ s27 = .int .i64 r ∧ SplA K S gd (gd + 1) gs B0 w4 r wr) (fun s27 _ => K - (intOf s27).toNat)
  case atStart => exact ⟨0, Nat.zero_le _, rfl, HA0.out⟩
  case round =>
    clear HA0
    obtain ⟨r, hr, rfl, hA⟩ := hrel
    by_cases hlt : r < K
    · have c1 := hA.box
      have c2 := hA.sbox
      have c3 := hA.row.cell hlt
      rw [if_neg (by omega)] at c3
      have f3 := hA.row.frozen r
      have hbv := below_alloc wr (.cells (madeCells #[.int .u8 0] S) TB)
      have e1 := (hbv.cell (lt_of_cell c1)).trans c1
      have e2 := (hbv.cell (lt_of_cell c2)).trans c2
      have e3 := (hbv.cell (lt_of_cell c3)).trans c3
      have f4 := (hA.row.alloc (.cells (madeCells #[.int .u8 0] S) TB)).frozen r
      have HS := Lib.hid (hA.step hlt (by omega) (by omega) (by omega))
      clear hA hbv
      gi_wp2_with fail
      refine wpIn_wide.2 ?_
      go_region
      all_goals
        gi_wp2_with fail
        exact ⟨⟨r + 1, by omega, by go_num, HS.out⟩, by simp [intOf]; omega⟩
    · obtain rfl : K = r := by omega
      have hsz := hA.size
      have h5 := hA.turned
      have HA5 := Lib.hid hA
      have hb5 := below_alloc wr (.cells #[.int .i64 0] TI)
      have hwB : w.heap.size < B0 := by omega
      have e5 : (wr.alloc (.cells #[.int .i64 0] TI)).heap[w.heap.size]? = some (.cells (parA p K m) TPa (0, 0)) :=
        (hb5.block _ (by omega)).trans ((h5.block _ (by have := HB0.out; omega) (by omega)).trans E4.out)
      have HT5 := Lib.hid (show Tab (wr.alloc (.cells #[.int .i64 0] TI)) from by
        have h1 : Tab wr := by
          obtain ⟨t, fr, h⟩ := HT4.out
          exact ⟨t, fr, (h5.block 0 (by have := HB0.out; omega) (by omega)).trans h⟩
        exact h1.below hb5)
      have HW5 := Lib.hid (show Below w.heap.size w (wr.alloc (.cells #[.int .i64 0] TI)) from (H4.out.trans (h5.below (by omega) (by have := HB0.out; omega))).trans (hb5.mono (by omega)))
      obtain ⟨d0, d1, d2⟩ := box_three e5
      have hP5 : (wr.alloc (.cells #[.int .i64 0] TI)).rowIs (B0 + K) TI 1 (fun _ => .int .i64 ((0 : Nat) : Int)) := by
        rw [← hsz]
        exact World.rowIs_alloc wr #[.int .i64 0] TI _ (fun i hi => by simp at hi; subst hi; rfl)
      have HP5 := Lib.hid hP5
      have HS5 := Lib.hid hsz
      clear h5 hb5 e5 hP5
      have h5s : (wr.alloc (.cells #[.int .i64 0] TI)).heap.size = B0 + K + 1 := by rw [World.size_alloc, hsz]
      have HZ5 := Lib.hid h5s
      have HB5 := Lib.hid (below_alloc wr (.cells #[.int .i64 0] TI))
      gi_wp2_with fail
      refine ⟨trivial, (callsIn_wide.2 (layout22 p K m _ HT5.out)).mono ?_⟩
      rintro e w6 ⟨rfl, hb6⟩
      rw [HL.out]
      have HB6 := Lib.hid hb6
      have HW6 := Lib.hid (HW5.out.trans (hb6.mono HW5.out.size))
      have hs6 : B0 + K + 1 ≤ w6.heap.size := by have := hb6.size; rw [h5s] at this; exact this
      clear hb6 d0 d1 d2 HT5 HW5 hA h5s
      gi_wp2_with fail
      refine ⟨trivial, (callsIn_wide.2 (laid27 l B n cb w6)).mono ?_⟩
      rintro e w8 ⟨rfl, hw8⟩
      have hb8 : Below w6.heap.size w6 w8 := by rw [← hw8]; exact (below_alloc w6 _).alloc (by simp) _
      have hs8 : w8.heap.size = w6.heap.size + 2 := by rw [← hw8]; simp
      have hbl8 : w8.cell? ⟨w6.heap.size, 0, none⟩ = some (.int .u8 l) := by rw [← hw8]; simp
      have hbb8 : w8.cell? ⟨w6.heap.size + 1, 0, none⟩ = some (.slice B n cb) := by rw [← hw8]; simp
      have h58 := HB6.out.trans (hb8.mono HB6.out.size)
      have hr8 : Below wr.heap.size wr w8 := HB5.out.trans (h58.mono HB5.out.size)
      have HI := Lib.hid (show SplI l n f B cb K S gd (gd + 1) gs B0 w6.heap.size (w6.heap.size + 1) w w8 0 w8 from
        ⟨HW6.out.trans (hb8.mono HW6.out.size), (HA5.out.row.of_block (hr8.block _ HA5.out.row.lt)).congr (fun r hr => by rw [if_pos hr]),
          fun r hr => ((HA5.out.rows r hr).of_block (hr8.block _ (HA5.out.rows r hr).lt)).congr (fun c _ => by rw [if_neg (by omega)]; rfl),
          HP5.out.of_block (h58.block _ HP5.out.lt), (hr8.cell (lt_of_cell HA5.out.box)).trans HA5.out.box, (hr8.cell (lt_of_cell HA5.out.sbox)).trans HA5.out.sbox, hbb8, hbl8, Nat.le_refl _⟩)
      have h08 : w.heap.size ≤ w8.heap.size := by omega
      have hB8 : B0 + K < w8.heap.size := by omega
      obtain ⟨bl, hbl⟩ : ∃ bl, w6.heap.size = bl := ⟨_, rfl⟩
      rw [hbl] at HI hs6 hs8
      have hsz8 := Nat.le_of_eq hs8.symm
      clear hw8 hb8 hbl8 hbb8 h58 hr8 HW6 HB6 HA5 HP5 hs8
      gi_wp2_with fail
      clear hbl
      refine' range_keep (by omega) (gf := 140) (lb := #[.pointer (some ⟨bl + 1, 0, none⟩), .pointer (some ⟨bl, 0, none⟩)]) rfl (enters_of Tryz.func140 (by kernel_rfl) rfl)
        (encs := fun x : Nat => #[.int .u8 x]) (fun _ => rfl) (laid_hand 4 b (bl + 1) bl l n B cb f (by omega) (by omega))
        (fun j W => SplI l n f B cb K S gd (gd + 1) gs B0 bl (bl + 1) w w8 j W) (fun j W h => h.told HR.out) (fun j X Y h hb => h.soft hb h08 (by omega) hB8 (by omega) (by omega) (by omega) (by omega)) (fun j x X r o o' h ho hc => h) HI.out _ ?assign ?body ?done
      case assign =>
        intro lp x W k hK
        gi_wp2_with fail
        exact hK
      case body =>
        intro lp j x W hI hj hX hsz
        obtain ⟨hX1, hY1⟩ := row_lt (show j < K * S by have := HKS.out; omega)
        obtain ⟨X, Y, hXY, hXK, hYS⟩ : ∃ X Y, X * S + Y = j ∧ X < K ∧ Y < S := ⟨j / S, j % S, by rw [Nat.mul_comm, Nat.div_add_mod], hX1, hY1⟩
        obtain rfl : x = laidB (aheadL l) n f j := hX
        have c1 := hI.box
        have c2 := hI.sbox
        have c3 := hI.place.cell (i := 0) (by omega)
        have c4 := hI.row.cell hXK
        have c5 := (hI.rows X hXK).cell hYS
        have f5 := (hI.rows X hXK).frozen Y
        have hpl := hI.place.setOther (a := ⟨B0 + X, Y, none⟩) (by simp; omega) (.int .u8 (laidB (aheadL l) n f j))
        have c6 := hpl.cell (i := 0) (by omega)
        have f6 := hpl.frozen 0
        have hst := SplI.step (X := X) (Y := Y) (by rw [hXY]; exact hI) hXK hYS (by omega) (by omega) hB8 (by omega) (by omega) (by omega) (by omega)
        rw [hXY] at hst
        have HS := Lib.hid hst
        obtain ⟨z, hz⟩ : ∃ z, laidB (aheadL l) n f j = z := ⟨_, rfl⟩
        rw [hz] at HS hpl c6 f6 ⊢
        have hj2 : j ≤ 100000 := by
          have : K * S ≤ 8 * 5000 := Nat.mul_le_mul k8 s2
          have := HKS.out
          omega
        have hdiv : IntKind.i64.wrap ((j : Int) / (S : Int)) = (X : Int) := by
          have e : j / S = X := by rw [← hXY, Nat.mul_comm, Nat.mul_add_div (by omega), Nat.div_eq_of_lt hYS, Nat.add_zero]
          rw [← Int.natCast_ediv, e, IntKind.wrap_i64]
          omega
        have hmod : (j : Int).tmod (S : Int) = (Y : Int) := by
          have e : j % S = Y := by rw [← hXY, Nat.mul_comm, Nat.mul_add_mod, Nat.mod_eq_of_lt hYS]
          rw [← Int.ofNat_tmod, e]
        have hS0 : ¬ S = 0 := by omega
        have hS : W.drew.cell? ⟨gd + 1, 0, none⟩ = some (sl gd K) ∧ W.drew.cell? ⟨gs, 0, none⟩ = some (.int .i64 S) ∧ W.drew.cell? ⟨B0 + K, 0, none⟩ = some (.int .i64 (j : Int)) ∧ W.drew.cell? ⟨gd, X, none⟩ = some (sl (B0 + X) S) := ⟨c1, c2, c3, c4⟩
        have hS2 : (W.setCell ⟨B0 + X, Y, none⟩ (.int .u8 z)).drew.cell? ⟨gd + 1, 0, none⟩ = some (sl gd K) ∧ (W.setCell ⟨B0 + X, Y, none⟩ (.int .u8 z)).drew.cell? ⟨gs, 0, none⟩ = some (.int .i64 S) ∧ (W.setCell ⟨B0 + X, Y, none⟩ (.int .u8 z)).drew.cell? ⟨B0 + K, 0, none⟩ = some (.int .i64 (j : Int)) ∧ (W.setCell ⟨B0 + X, Y, none⟩ (.int .u8 z)).drew.cell? ⟨gd, X, none⟩ = some (sl (B0 + X) S) :=
          ⟨(World.cell?_setCell_other _ _ _ _ (by intro h; injection h; omega)).trans c1, (World.cell?_setCell_other _ _ _ _ (by intro h; injection h; omega)).trans c2, c6, (World.cell?_setCell_other _ _ _ _ (by intro h; injection h; omega)).trans c4⟩
        clear hI hj hX1 hY1 hXY hz hpl hst
        try dsimp only
        gi_wp2_with fail
        refine region_in_round (fun w' => w'.cell? ⟨gd + 1, 0, none⟩ = some (sl gd K) ∧ w'.cell? ⟨gs, 0, none⟩ = some (.int .i64 S) ∧ w'.cell? ⟨B0 + K, 0, none⟩ = some (.int .i64 (j : Int)) ∧ w'.cell? ⟨gd, X, none⟩ = some (sl (B0 + X) S)) 12 rfl (by kernel_rfl) (by kernel_rfl) ?_
        refine takeL (i := 0) (v := sl gd K) rfl (by kernel_rfl) (by kernel_rfl) (by kernel_rfl) rfl (fun w' hSw => ?tk0) hS ?_
        case tk0 =>
          obtain ⟨q1, q2, q3, q4⟩ := hSw
          go_simp
        try simp only [Act.put, List.setIfInBounds_toArray, List.set_cons_zero, List.set_cons_succ]
        refine takeL (i := 1) (v := .int .i64 (j : Int)) rfl (by kernel_rfl) (by kernel_rfl) (by kernel_rfl) rfl (fun w' hSw => ?tk1) hS ?_
        case tk1 =>
          obtain ⟨q1, q2, q3, q4⟩ := hSw
          go_simp
        try simp only [Act.put, List.setIfInBounds_toArray, List.set_cons_zero, List.set_cons_succ]
        refine takeL (i := 2) (v := .int .i64 S) rfl (by kernel_rfl) (by kernel_rfl) (by kernel_rfl) rfl (fun w' hSw => ?tk2) hS ?_
        case tk2 =>
          obtain ⟨q1, q2, q3, q4⟩ := hSw
          go_simp
        try simp only [Act.put, List.setIfInBounds_toArray, List.set_cons_zero, List.set_cons_succ]
        refine takeL (i := 3) (v := .int .i64 (X : Int)) rfl (by kernel_rfl) (by kernel_rfl) (by kernel_rfl) rfl (fun w' hSw => ?tk3) hS ?_
        case tk3 =>
          obtain ⟨q1, q2, q3, q4⟩ := hSw
          go_simp
        try simp only [Act.put, List.setIfInBounds_toArray, List.set_cons_zero, List.set_cons_succ]
        refine takeL (i := 4) (v := .pointer (some ⟨gd, X, none⟩)) rfl (by kernel_rfl) (by kernel_rfl) (by kernel_rfl) rfl (fun w' hSw => ?tk4) hS ?_
        case tk4 =>
          obtain ⟨q1, q2, q3, q4⟩ := hSw
          go_simp
        try simp only [Act.put, List.setIfInBounds_toArray, List.set_cons_zero, List.set_cons_succ]
        refine takeL (i := 5) (v := sl (B0 + X) S) rfl (by kernel_rfl) (by kernel_rfl) (by kernel_rfl) rfl (fun w' hSw => ?tk5) hS ?_
        case tk5 =>
          obtain ⟨q1, q2, q3, q4⟩ := hSw
          go_simp
        try simp only [Act.put, List.setIfInBounds_toArray, List.set_cons_zero, List.set_cons_succ]
        refine takeL (i := 6) (v := .int .i64 (j : Int)) rfl (by kernel_rfl) (by kernel_rfl) (by kernel_rfl) rfl (fun w' hSw => ?tk6) hS ?_
        case tk6 =>
          obtain ⟨q1, q2, q3, q4⟩ := hSw
          go_simp
        try simp only [Act.put, List.setIfInBounds_toArray, List.set_cons_zero, List.set_cons_succ]
        refine takeL (i := 7) (v := .int .i64 S) rfl (by kernel_rfl) (by kernel_rfl) (by kernel_rfl) rfl (fun w' hSw => ?tk7) hS ?_
        case tk7 =>
          obtain ⟨q1, q2, q3, q4⟩ := hSw
          go_simp
        try simp only [Act.put, List.setIfInBounds_toArray, List.set_cons_zero, List.set_cons_succ]
        refine takeL (i := 8) (v := .int .i64 (Y : Int)) rfl (by kernel_rfl) (by kernel_rfl) (by kernel_rfl) rfl (fun w' hSw => ?tk8) hS ?_
        case tk8 =>
          obtain ⟨q1, q2, q3, q4⟩ := hSw
          go_simp
        try simp only [Act.put, List.setIfInBounds_toArray, List.set_cons_zero, List.set_cons_succ]
        refine takeL (i := 9) (v := .int .u8 (z : Int)) rfl (by kernel_rfl) (by kernel_rfl) (by kernel_rfl) rfl (fun w' hSw => ?tk9) hS ?_
        case tk9 =>
          obtain ⟨q1, q2, q3, q4⟩ := hSw
          go_simp
        try simp only [Act.put, List.setIfInBounds_toArray, List.set_cons_zero, List.set_cons_succ]
        refine takeL (i := 10) (v := .pointer (some ⟨B0 + X, Y, none⟩)) rfl (by kernel_rfl) (by kernel_rfl) (by kernel_rfl) rfl (fun w' hSw => ?tk10) hS ?_
        case tk10 =>
          obtain ⟨q1, q2, q3, q4⟩ := hSw
          go_simp
        try simp only [Act.put, List.setIfInBounds_toArray, List.set_cons_zero, List.set_cons_succ]
        refine stepL (i := 11) (by kernel_rfl) rfl rfl (fun k hK => ?_)
        go_simp
        refine hK _ _ hS2 ?_
        clear hK k
        try simp only [Act.put, List.setIfInBounds_toArray, List.set_cons_zero, List.set_cons_succ]
        refine wpAnyH_done (by kernel_rfl) ?_ _
        dsimp only [OnlyN]
        gi_wp2_with fail
        exact ⟨HS.out.2.drew, HS.out.1.drew⟩
      case done =>
        rintro D W hD hI hK
        have c1 := hI.box
        have HI2 := Lib.hid (hI.soft (below_put hD (.deferred none)) h08 (by omega) hB8 (by omega) (by omega) (by omega) (by omega))
        have HQ := Lib.hid (HE.out _ _ _ (HI2.out.rows_told HL.out (by omega) hgd4) HI2.out.caps)
        clear hI
        gi_wp2_with fail
        refine ⟨by simp, .inl ⟨_, _, rfl, run_takeDeferred hK, ?_⟩⟩
        exact ⟨_, results_tmp2 (t := 4) (u := 5) rfl _ _ _, HQ.out⟩

/-- .. and its rows have room for all their bytes -/
theorem split12' (b : Nat) (p k m : Int) (f : Nat → Nat) (B : Option Addr) (n cb : Nat) (w : World) (hT : Tab w) (hr : Rd b w (u8s f) B n) :
    Calls Tryz.prog 51 #[.agg (parA p k m), .slice B n cb] w (SplitSaidC p k m n f w) := by
  by_cases hE : szE p k m n = 0
  · exact split_yes' b p k m f B n cb w hT hr hE
  · refine (split_no p k m f B n cb w hT hE).mono fun e w' h => ⟨h, ?_⟩
    obtain ⟨v, rfl, A, c, rfl, _⟩ := h
    rw [splN_no hE]
    exact OutCaps.of (Caps.zero _ _)
end Go.Proofs.YtgdgimknnjbieaaGreatDoor

namespace Go.Proofs.YtgdgimknnjbieaaGreatDoor
open Go.RowKit

theorem rd_grownH {H g' : Nat} {wr w1 : World} {o : Obj} {own : Option Nat} {k : Nat → Value} {A : Option Addr} {n : Nat} (h0 : 0 < H) (hr : ∀ g, (g < H ∨ own = some g) → Rd g wr k A n) (hgr : (wr.alloc o).grownBy w1 own) (hg : own = some g' ∨ g' = (wr.alloc o).heap.size) :
    ∀ g, (g < H ∨ some g' = some g) → Rd g w1 k A n := fun g hgg hn => by
  obtain ⟨ad, rfl, h1, h2, h3⟩ := hr 0 (Or.inl h0) hn
  have hno : own ≠ some ad.block := fun e => by
    obtain ⟨ad', e', h4, _⟩ := hr ad.block (Or.inr e) hn
    injection e' with e'
    subst e'
    exact h4 rfl
  have hbl : w1.heap[ad.block]? = wr.heap[ad.block]? := (hgr.block ad.block (by simp; omega) (fun e => hno e.symm)).trans (Below.heap_alloc wr o _ h2)
  refine ⟨ad, rfl, ?_, Nat.lt_of_lt_of_le h2 (Nat.le_trans (by simp) hgr.size), fun j hj => (World.cell?_of_block (by rw [block_of_add]; exact hbl)).trans (h3 j hj)⟩
  rcases hgg with hgg | hgg
  · obtain ⟨ad', e', h4, _⟩ := hr g (Or.inl hgg) hn
    injection e' with e'
    subst e'
    exact h4
  · injection hgg with hgg
    subst hgg
    rcases hg with hg | hg
    · exact fun e => hno (e ▸ hg)
    · simp at hg
      omega

/-- rows of bytes that are appended, one by one -/
def BApp (w : World) (F : Nat → Nat → Nat) (Ls : Nat → Nat) (k : Nat) (v : Value) (wr : World) : Prop :=
  Below w.heap.size w wr ∧ ∃ (As : Nat → Option Addr) (Cs : Nat → Nat), wr.ownsRow w.heap.size TBs 1 v k ((List.range k).map (slis As Ls Cs)) ∧ ∀ r, r < k → ∀ g, (g < w.heap.size ∨ v.ownBlock = some g) → Rd g wr (u8s (F r)) (As r) (Ls r)
theorem own_below' {w w' : World} {base e n : Nat} {v : Value} {xs : List Value} (h : w.ownsRow base e 1 v n xs) (hb : Below w.heap.size w w') : w'.ownsRow base e 1 v n xs :=
  h.kept (row := none) ⟨hb.os, hb.tape, hb.output, hb.size, fun k hk _ => hb.block k hk⟩ (Classical.em _)
theorem BApp.start (w : World) (F : Nat → Nat → Nat) (Ls : Nat → Nat) : BApp w F Ls 0 nilS w := ⟨Below.refl _ _, fun _ => none, fun _ => 0, World.ownsRow_nil _ _ _ _, fun r hr => absurd hr (by omega)⟩
theorem BApp.below {w : World} {F : Nat → Nat → Nat} {Ls : Nat → Nat} {k : Nat} {v : Value} {wr w' : World} (h : BApp w F Ls k v wr) (hb : Below wr.heap.size wr w') : BApp w F Ls k v w' := by
  obtain ⟨h1, As, Cs, h2, h3⟩ := h
  exact ⟨below_tr h1 hb, As, Cs, own_below' h2 hb, fun r hr g hg => (h3 r hr g hg).below hb⟩
theorem BApp.step {w : World} {F : Nat → Nat → Nat} {Ls : Nat → Nat} {k : Nat} {v : Value} {wr w1 : World} {o : Obj} {As : Nat → Option Addr} {Cs : Nat → Nat} {A' : Option Addr} {n' c' g' cap : Nat} (h0 : 0 < w.heap.size) (h1 : Below w.heap.size w wr) (h2 : wr.ownsRow w.heap.size TBs 1 v k ((List.range k).map (slis As Ls Cs)))
    (h3 : ∀ r, r < k → ∀ g, (g < w.heap.size ∨ v.ownBlock = some g) → Rd g wr (u8s (F r)) (As r) (Ls r)) (hn : Ls k = n') (hr : ∀ g, (g < w.heap.size ∨ v.ownBlock = some g) → Rd g wr (u8s (F k)) A' n')
    (hown : w1.ownsRow w.heap.size TBs 1 (.slice (some ⟨g', 0, none⟩) (k + 1) cap) (k + 1) ((List.range k).map (slis As Ls Cs) ++ [.slice A' n' c'])) (hgr : (wr.alloc o).grownBy w1 v.ownBlock) (hg : v.ownBlock = some g' ∨ g' = wr.heap.size + 1) :
    BApp w F Ls (k + 1) (.slice (some ⟨g', 0, none⟩) (k + 1) cap) w1 := by
  subst hn
  have hg : v.ownBlock = some g' ∨ g' = (wr.alloc o).heap.size := by rw [World.size_alloc]; exact hg
  refine ⟨(h1.alloc h1.size o).grown hgr (by simp; have := h1.size; omega) (fun q hq => (h2.lt q hq).1), fun r => if r = k then A' else As r, fun r => if r = k then c' else Cs r, ?_, fun r hr' g hgg => ?_⟩
  · rw [range_snoc]
    have e1 : (List.range k).map (slis (fun r => if r = k then A' else As r) Ls (fun r => if r = k then c' else Cs r)) = (List.range k).map (slis As Ls Cs) := range_congr (fun j hj => by
      simp only [slis]
      rw [if_neg (by omega), if_neg (by omega)])
    rw [e1]
    simp only [slis, if_pos]
    exact hown
  · by_cases e : r = k
    · subst e
      dsimp only
      rw [if_pos rfl]
      exact rd_grownH h0 hr hgr hg g hgg
    · dsimp only
      rw [if_neg e]
      exact rd_grownH h0 (h3 r (by omega)) hgr hg g hgg
theorem BApp.told {w : World} {F : Nat → Nat → Nat} {Ls : Nat → Nat} {k : Nat} {v : Value} {wr : World} (h : BApp w F Ls k v wr) (h0 : 0 < w.heap.size) : RowsTold k F Ls w v wr := by
  obtain ⟨h1, As, Cs, h2, h3⟩ := h
  obtain ⟨A, c, e, hc, _⟩ := Rd.of_own h2 h0
  refine ⟨A, c, e, hc, fun b hb => ⟨As, Cs, ?_, fun r hr => h3 r hr b (Or.inl hb)⟩, h1⟩
  obtain ⟨A2, c2, e2, _, h5⟩ := Rd.of_own h2 hb
  rw [e] at e2
  injection e2 with e2
  subst e2
  exact h5
theorem one_slice' (A : Option Addr) (n c : Nat) : ∀ u ∈ [Value.slice A n c], u.oneCell' = true := by intro u hu; simp at hu; subst hu; rfl

/-- the four bytes ahead -/
theorem news_four {w : World} {t a b c d : Nat} {f : Nat → Nat} (ha : a = f 0) (hb : b = f 1) (hc : c = f 2) (hd : d = f 3) :
    Rd w.heap.size.succ (w.alloc (.cells #[.int .u8 a, .int .u8 b, .int .u8 c, .int .u8 d] t)) (u8s f) (some ⟨w.heap.size, 0, none⟩) 4 := by
  subst ha hb hc hd
  refine Rd.of_row (World.rowIs_alloc w _ t (u8s f) (fun i hi => ?_)) (by omega) (by simp)
  simp at hi
  match i, hi with
  | 0, _ => rfl
  | 1, _ => rfl
  | 2, _ => rfl
  | 3, _ => rfl

/-- what the document's laid tells -/
def RLaidSaid (l : Int) (n : Nat) (f : Nat → Nat) (w : World) (e : Ending) (w' : World) : Prop := ∃ v, e = .returned v ∧ App w TB (u8s (laidB (aheadL l) n f)) (aheadL l + n) v w'

set_option maxRecDepth 100000 in
set_option maxHeartbeats 2000000 in
theorem rlaid28 (b : Nat) (p k m : Int) (f : Nat → Nat) (B : Option Addr) (n cb : Nat) (hn : n ≤ 4096) (hc : B = none → cb = 0) (w : World) (hr : Rd b w (u8s f) B n) :
    Calls Tryz.prog 96 #[.agg (parA p k m), .slice B n cb] w (RLaidSaid (layI p) n f w) := by
  obtain ⟨i0, hi, hz0, hz1, hz2⟩ := info_parts infoB
  obtain ⟨v, hv⟩ : ∃ v, w.alloc (.cells #[.int .i64 p, .int .i64 k, .int .i64 m] TPa) = v := ⟨_, rfl⟩
  obtain ⟨_, e0, hbv⟩ := one_box hv
  have E0 := Lib.hid e0
  have HV := Lib.hid hbv
  have HR := Lib.hid hr
  have HC := Lib.hid hc
  have HL := Lib.hid (rlayout25 p k m v)
  obtain ⟨l, hl⟩ : ∃ l, layI p = l := ⟨_, rfl⟩
  rw [hl] at HL ⊢
  have HE := Lib.hid (fun v w' (h : App w TB (u8s (laidB (aheadL l) n f)) (aheadL l + n) v w') => show RLaidSaid l n f w (.returned v) w' from ⟨v, rfl, h⟩)
  clear e0 hbv hr hc hl
  obtain ⟨d0, d1, d2⟩ := box_three E0.out
  go_enter Tryz.func96, Tryz.ntmps96
  go_wp2_with fail
  refine HL.out.mono ?_
  rintro e w1 ⟨rfl, hb1⟩
  have H1 := Lib.hid (below_tr HV.out hb1)
  have hsz := H1.out.size
  clear hb1 d0 d1 d2
  by_cases h98 : l = 98
  · have h98' : (l == 98) = true := by simp [h98]
    have ha : aheadL l = 4 := by unfold aheadL; rw [if_pos h98]
    rw [ha] at HE
    clear ha h98
    obtain ⟨e0, e1, e2, e3⟩ := laidB_head (n := n) (f := f)
    obtain ⟨x0, hx0⟩ : ∃ x, n / 16777216 % 256 = x := ⟨_, rfl⟩
    obtain ⟨x1, hx1⟩ : ∃ x, n / 65536 % 256 = x := ⟨_, rfl⟩
    obtain ⟨x2, hx2⟩ : ∃ x, n / 256 % 256 = x := ⟨_, rfl⟩
    obtain ⟨x3, hx3⟩ : ∃ x, n % 256 = x := ⟨_, rfl⟩
    have hw0 : (n : Int) / 16777216 % 256 = (x0 : Int) := by omega
    have hw1 : (n : Int) / 65536 % 256 = (x1 : Int) := by omega
    have hw2 : (n : Int) / 256 % 256 = (x2 : Int) := by omega
    have hw3 : (n : Int) % 256 = (x3 : Int) := by omega
    have hb0 : x0 < 256 := by omega
    have hb1 : x1 < 256 := by omega
    have hb2 : x2 < 256 := by omega
    have hb3 : x3 < 256 := by omega
    rw [hx0] at e0
    rw [hx1] at e1
    rw [hx2] at e2
    rw [hx3] at e3
    have HN := Lib.hid (news_four (w := w1) (t := TB) e0.symm e1.symm e2.symm e3.symm)
    clear e0 e1 e2 e3 hx0 hx1 hx2 hx3
    go_wp2_with (at_builtin; refine append_rd _ rfl (.tmp 12) (.tmp 28) TBs rfl w.heap.size TB i0 (.int .u8 0) 1 underB hi hz0 hz1 hz2 rfl nilS 0 [] rfl (World.ownsRow_nil _ _ _ _) w1.heap.size.succ _ _ 4 4 rfl (fun h => by cases h) HN.out (one_u8s _) (by unfold maxLen; omega) (by omega) (by simp; omega) ?_)
    intro v2 w2 hown hgr
    have hB2 : Below w.heap.size w w2 := (H1.out.alloc hsz _).grown hgr (by simp; omega) (fun q hq => by simp [Value.ownBlock] at hq)
    have hsz2 := hB2.size
    have HOWN := Lib.hid hown
    have HB2 := Lib.hid hB2
    clear hown hgr hB2
    go_wp2_with (at_builtin; refine append_rd _ rfl _ _ TBs rfl w.heap.size TB i0 (.int .u8 0) 1 underB hi hz0 hz1 hz2 rfl v2 (0 + 4) _ rfl HOWN.out b _ _ _ _ rfl HC.out (HR.out.below HB2.out) (one_u8s _) (by unfold maxLen; omega) (by omega) hsz2 ?_)
    intro v3 w3 hown hgr
    have HQ := Lib.hid (HE.out v3 w3 ⟨by
      rw [range_cat, range_congr (k := fun j => u8s (laidB 4 n f) (4 + j)) (k' := u8s f) (fun j hj => by simp only [u8s]; rw [laidB_at hj])]
      exact hown, HB2.out.grown hgr hsz2 (fun q hq => (HOWN.out.lt q hq).1)⟩)
    clear hown hgr
    go_wp2_with fail
    go_ret
    exact HQ.out
  · have h98' : (l == 98) = false := by simp [h98]
    have ha : aheadL l = 0 := by unfold aheadL; rw [if_neg h98]
    rw [ha, Nat.zero_add] at HE
    clear ha h98
    go_wp2_with (at_builtin; refine append_rd _ rfl _ _ TBs rfl w.heap.size TB i0 (.int .u8 0) 1 underB hi hz0 hz1 hz2 rfl nilS 0 [] rfl (World.ownsRow_nil _ _ _ _) b _ _ _ _ rfl HC.out (HR.out.below H1.out) (one_u8s _) (by unfold maxLen; omega) (by omega) hsz ?_)
    intro v2 w2 hown hgr
    have HQ := Lib.hid (HE.out v2 w2 (App.congr ⟨hown, H1.out.grown hgr hsz (fun q hq => by simp [Value.ownBlock] at hq)⟩ (fun j hj => by
      simp only [u8s]
      have := laidB_at (a := 0) (n := n) (f := f) (i := j) hj
      rw [Nat.zero_add] at this
      rw [this])))
    clear hown hgr
    go_wp2_with fail
    go_ret
    exact HQ.out

set_option maxRecDepth 100000 in
theorem rsplit_no (p k m : Int) (f : Nat → Nat) (B : Option Addr) (n cb : Nat) (w : World) (hE : szE p k m n ≠ 0) :
    Calls Tryz.prog 56 #[.agg (parA p k m), .slice B n cb] w (SplitSaid p k m n f w) := by
  obtain ⟨v, hv⟩ : ∃ v, w.alloc (.cells #[.int .i64 p, .int .i64 k, .int .i64 m] TPa) = v := ⟨_, rfl⟩
  obtain ⟨_, e0, hbv⟩ := one_box hv
  have E0 := Lib.hid e0
  have HV := Lib.hid hbv
  have HE := Lib.hid (show ∀ w', Below w.heap.size w w' → SplitSaid p k m n f w (.returned (.tuple #[nilS, .int .i64 (szE p k m n)])) w' from fun w' h => ⟨_, rfl, by rw [splN_no hE]; exact RowsTold.nil h⟩)
  have HSZ := Lib.hid (rsize11 p k m n v)
  unfold SizeSaid at HSZ
  obtain ⟨x, hx⟩ : ∃ x, szE p k m n = x := ⟨_, rfl⟩
  rw [hx] at HE HSZ hE
  have hne : (x != 0) = true := by simp [hE]
  clear hx hE e0 hbv
  obtain ⟨d0, d1, d2⟩ := box_three E0.out
  go_enter Tryz.func56, Tryz.ntmps56
  go_wp2_with fail
  refine HSZ.out.mono ?_
  rintro e w1 ⟨rfl, hb1⟩
  have H1 := Lib.hid (below_tr HV.out hb1)
  clear hb1 d0 d1 d2
  go_wp2_with fail
  go_ret2
  exact HE.out _ H1.out

/-- in the inner loop of the document's Split -/
def RSplIn (S i : Nat) (G : Nat → Nat) (wi : World) (s11 s12 : Value) (wr : World) : Prop := ∃ j : Nat, j ≤ S ∧ s12 = .int .i64 j ∧ App wi TB (u8s fun j => G (i * S + j)) j s11 wr

set_option maxRecDepth 100000 in
set_option maxHeartbeats 4000000 in
theorem rsplit_yes (b : Nat) (p k m : Int) (f : Nat → Nat) (hf : ∀ j, f j < 256) (B : Option Addr) (n cb : Nat) (hc : B = none → cb = 0) (w : World) (h0 : 0 < w.heap.size) (hr : Rd b w (u8s f) B n) (hE : szE p k m n = 0) :
    Calls Tryz.prog 56 #[.agg (parA p k m), .slice B n cb] w (SplitSaid p k m n f w) := by
  obtain ⟨K, rfl, k1, k8, hn, hmay⟩ := sz_ok hE
  obtain ⟨i0, hi, hz0, hz1, hz2⟩ := info_parts infoS
  obtain ⟨j0, hj, hy0, hy1, hy2⟩ := info_parts infoB
  obtain ⟨v, hv⟩ : ∃ v, w.alloc (.cells #[.int .i64 p, .int .i64 (K : Int), .int .i64 m] TPa) = v := ⟨_, rfl⟩
  obtain ⟨_, e0, hbv⟩ := one_box hv
  have E0 := Lib.hid e0
  have HV := Lib.hid hbv
  have HR := Lib.hid hr
  have HC := Lib.hid hc
  have hS : szN p K m n = szU (unitL (layI p)) K (aheadL (layI p) + n) := (szE_ok hmay hn).1
  have hS2 := szU_le (u := unitL (layI p)) (K := K) (m := aheadL (layI p) + n) (unitL_pos _).1 k1
  have hu := unitL_pos (layI p)
  have ha4 := aheadL_le (layI p)
  rw [← hS] at hS2
  have hEE : splN p K m n = K := (if_pos hE).trans (Int.toNat_natCast K)
  have HE := Lib.hid (show ∀ v w', RowsTold K (splF p (szN p K m n) n f) (fun _ => szN p K m n) w v w' → SplitSaid p K m n f w (.returned (.tuple #[v, .int .i64 0])) w' from fun v w' h => ⟨_, by rw [hE], by rw [hEE]; exact h⟩)
  have HSZ := Lib.hid (rsize11 p K m n v)
  unfold SizeSaid at HSZ
  obtain ⟨S, hSS⟩ : ∃ S, szN p K m n = S := ⟨_, rfl⟩
  rw [hE, hSS] at HSZ
  rw [hSS] at HE hS2
  have s2 : S ≤ 5000 := by omega
  obtain ⟨L, hL⟩ : ∃ L, aheadL (layI p) + n = L := ⟨_, rfl⟩
  obtain ⟨G, hG⟩ : ∃ G, laidB (aheadL (layI p)) n f = G := ⟨_, rfl⟩
  have hL2 : L ≤ 5000 := by omega
  have HG0 := Lib.hid (show ∀ i, L ≤ i → G i = 0 from fun i h => by rw [← hG]; exact laidB_out (by omega))
  have HGL := Lib.hid (show ∀ i, G i < 256 from fun i => by rw [← hG]; exact laidB_lt hf i)
  have HLD := Lib.hid (fun w1 hr => rlaid28 b p K m f B n cb hn hc w1 hr)
  have HFG := Lib.hid (show splF p S n f = fun r j => G (r * S + j) by rw [← hG]; rfl)
  unfold RLaidSaid at HLD
  rw [hL, hG] at HLD
  clear e0 hbv hr hc hS hS2 hu hEE hSS hmay hE hL hG ha4 hf
  obtain ⟨d0, d1, d2⟩ := box_three E0.out
  go_enter Tryz.func56, Tryz.ntmps56
  go_wp2_with fail
  refine HSZ.out.mono ?_
  rintro e w1 ⟨rfl, hb1⟩
  have H1 := Lib.hid (below_tr HV.out hb1)
  have E1 := Lib.hid (kept_box E0.out hb1)
  clear hb1 d0 d1 d2 HSZ
  obtain ⟨d0, d1, d2⟩ := box_three E1.out
  go_wp2_with fail
  refine (HLD.out w1 (HR.out.below H1.out)).mono ?_
  rintro e w2 ⟨A, rfl, happ⟩
  have H2 := Lib.hid (below_tr H1.out happ.2)
  have E2 := Lib.hid (kept_box E1.out happ.2)
  have hp1 : 0 < w1.heap.size := Nat.lt_of_lt_of_le h0 H1.out.size
  obtain ⟨A, c, rfl, _, hrd⟩ := happ.rd hp1
  have HRD := Lib.hid hrd
  have hp2 : 0 < w2.heap.size := Nat.lt_of_lt_of_le h0 H2.out.size
  clear happ hrd d0 d1 d2 HLD HR HC hp1
  go_wp2_with fail
  go_loopw [9, 10] (fun s9 s10 wr => ∃ i : Nat, i ≤ K ∧ s10 = .int .i64 i ∧ BApp w2 (fun r j => G (r * S + j)) (fun _ => S) i s9 wr) (fun _ s10 _ => K - (intOf s10).toNat)
  case atStart => exact ⟨0, Nat.zero_le _, rfl, BApp.start _ _ _⟩
  case round =>
    obtain ⟨i, hiK, rfl, happ⟩ := hrel
    obtain ⟨wi, hwi⟩ : ∃ wi, wi = wr := ⟨_, rfl⟩
    subst hwi
    have HAPP := Lib.hid happ
    have HBI := Lib.hid happ.1
    obtain ⟨d0, d1, d2⟩ := box_three (kept_box E2.out happ.1)
    have hsz := happ.1.size
    clear happ
    by_cases hlt : i < K
    · obtain ⟨x, hx⟩ : ∃ x, i * S = x := ⟨_, rfl⟩
      have HX := Lib.hid hx
      have hx4 : x ≤ 40000 := by rw [← hx]; exact Nat.le_trans (Nat.mul_le_mul (show i ≤ 8 by omega) s2) (by omega)
      have HWX := Lib.hid (show wrap64 ((i : Int) * (S : Int)) = (x : Int) by
        rw [← Int.natCast_mul, hx]
        exact wrap64_n _ (by omega))
      clear hx
      go_wp2_with fail
      go_loopw [11, 12] (fun s11 s12 wr => RSplIn S i G wi s11 s12 wr) (fun _ s12 _ => S - (intOf s12).toNat)
      case atStart => exact ⟨0, Nat.zero_le _, rfl, App.start _ _ _⟩
      case round =>
        obtain ⟨j, hjS, rfl, ha⟩ := hrel
        have HAJ := Lib.hid ha
        have hsz2 := ha.2.size
        by_cases hlt2 : j < S
        · obtain ⟨q, hq⟩ : ∃ q, x + j = q := ⟨_, rfl⟩
          have hwq : wrap64 (wrap64 ((i : Int) * (S : Int)) + (j : Int)) = (q : Int) := by
            rw [HWX.out, ← Int.natCast_add, hq]
            exact wrap64_n _ (by omega)
          have HQ := Lib.hid hq
          clear hq
          by_cases hin : q < L
          · obtain ⟨ad, rfl, hcell⟩ := (HRD.out.below (below_tr HBI.out ha.2)).at_ hin
            simp only [u8s] at hcell
            have hy := HGL.out q
            have HXJ := Lib.hid (show (u8s fun j => G (i * S + j)) j = .int .u8 ((G q : Nat) : Int) by simp only [u8s]; rw [HX.out, HQ.out])
            obtain ⟨y, hyy⟩ : ∃ y, G q = y := ⟨_, rfl⟩
            rw [hyy] at hcell hy HXJ
            clear hyy ha
            go_wp2_with (at_builtin; refine wpList_append_own _ rfl (.tmp 54) (.tmp 56) TBs rfl wi.heap.size TB j0 (.int .u8 0) 1 1 Tryz.underlying35 hj hy0 hy1 hy2 rfl (by decide) _ _ _ rfl (HAJ.out.1.alloc _) ⟨wr.heap.size, 0, none⟩ 1 1 [(u8s fun j => G (i * S + j)) j] rfl rfl (news_one HXJ.out.symm) (one_u8 _) (by unfold maxLen; omega) (by omega) (by simp; omega) ?_)
            intro v' w3 hown' hgrow _
            have HS := Lib.hid (show RSplIn S i G wi v' (.int .i64 ((j : Int) + 1)) w3 from ⟨j + 1, hlt2, rfl, HAJ.out.step hown' hgrow⟩)
            clear hown' hgrow
            go_wp2_with fail
            exact ⟨HS.out, by simp [intOf]; omega⟩
          · have HXJ := Lib.hid (show (u8s fun j => G (i * S + j)) j = .int .u8 0 by simp only [u8s]; rw [HX.out, HQ.out, HG0.out _ (by omega)]; rfl)
            clear ha
            go_wp2_with (at_builtin; refine wpList_append_own _ rfl (.tmp 54) (.tmp 56) TBs rfl wi.heap.size TB j0 (.int .u8 0) 1 1 Tryz.underlying35 hj hy0 hy1 hy2 rfl (by decide) _ _ _ rfl (HAJ.out.1.alloc _) ⟨wr.heap.size, 0, none⟩ 1 1 [(u8s fun j => G (i * S + j)) j] rfl rfl (news_one HXJ.out.symm) (one_u8 _) (by unfold maxLen; omega) (by omega) (by simp; omega) ?_)
            intro v' w3 hown' hgrow _
            have HS := Lib.hid (show RSplIn S i G wi v' (.int .i64 ((j : Int) + 1)) w3 from ⟨j + 1, hlt2, rfl, HAJ.out.step hown' hgrow⟩)
            clear hown' hgrow
            go_wp2_with fail
            exact ⟨HS.out, by simp [intOf]; omega⟩
        · obtain rfl : S = j := by omega
          obtain ⟨hb0, As0, Cs0, hown0, hrow0⟩ := HAPP.out.below ha.2
          obtain ⟨_, _, _, hlo, _⟩ := HAPP.out
          obtain ⟨A', c', e', _, _⟩ := ha.rd (show 0 < wi.heap.size by omega)
          subst e'
          have HRY := Lib.hid (show ∀ g, (g < w2.heap.size ∨ u9.ownBlock = some g) → Rd g wr (u8s fun j => G (i * S + j)) A' S from fun g hg' => by
            have hgl : g < wi.heap.size := by
              rcases hg' with hg' | hg'
              · omega
              · exact (hlo.lt g hg').2
            obtain ⟨A2, c2, e2, _, h2⟩ := ha.rd hgl
            injection e2 with e2
            subst e2
            exact h2)
          have HBB := Lib.hid hb0
          have HOWN := Lib.hid hown0
          have HROW := Lib.hid hrow0
          have hsz3 := hb0.size
          clear hb0 hown0 hrow0 hlo ha
          go_wp2_with (at_builtin; refine wpList_append_lies _ rfl _ _ TRs rfl w2.heap.size TBs i0 nilS 1 24 Tryz.underlying24 hi hz0 hz1 hz2 rfl (by decide) _ i _ rfl (HOWN.out.alloc _) ⟨wr.heap.size, 0, none⟩ 1 1 [.slice A' S c'] rfl rfl (news_one rfl) (one_slice' _ _ _) (by omega) (by unfold maxLen; omega) (by omega) (by simp; omega) _ rfl ?_)
          intro g' cap' w3 hown2 hgr2 hg2 _
          have HS := Lib.hid (BApp.step (F := fun r j => G (r * S + j)) (Ls := fun _ => S) hp2 HBB.out HOWN.out HROW.out rfl HRY.out hown2 hgr2 hg2)
          clear hown2 hgr2 hg2
          go_wp2_with fail
          exact ⟨⟨i + 1, hlt, by go_num, HS.out⟩, by simp [intOf]; omega⟩
    · obtain rfl : K = i := by omega
      have HQ := Lib.hid (fun v (h : BApp w2 (fun r j => G (r * S + j)) (fun _ => S) K v wi) => HE.out v wi (by rw [HFG.out]; exact (h.told hp2).from H2.out))
      go_wp2_with fail
      go_ret2
      exact HQ.out _ HAPP.out

theorem rsplit13 (b : Nat) (p k m : Int) (f : Nat → Nat) (hf : ∀ j, f j < 256) (B : Option Addr) (n cb : Nat) (hc : B = none → cb = 0) (w : World) (h0 : 0 < w.heap.size) (hr : Rd b w (u8s f) B n) :
    Calls Tryz.prog 56 #[.agg (parA p k m), .slice B n cb] w (SplitSaid p k m n f w) := by
  by_cases hE : szE p k m n = 0
  · exact rsplit_yes b p k m f hf B n cb hc w h0 hr hE
  · exact rsplit_no p k m f B n cb w hE
end Go.Proofs.YtgdgimknnjbieaaGreatDoor
