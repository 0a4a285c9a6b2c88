/- Layer 12: contracts of Concat of rows of bytes, and of Rebuild. Layer 12: the contract of Rebuild. -/
import Derived.Test.YtgdgimknnjbieaaGreatDoorGre
import Derived.Test.YtgdgimknnjbieaaGreatDoorGrb
import Derived.Lib.AppendZeros

namespace Go.Proofs.YtgdgimknnjbieaaGreatDoor
open Go.RowKit Go.Shelf
attribute [local go_sem] Oper.semAt_some

theorem underR : Tryz.prog.underlying TRs = some (.slice TBs) := Tryz.underlying24
set_option maxRecDepth 100000 in
set_option maxHeartbeats 1000000 in
/-- Grow, of nothing -/
theorem grow74 (N : Nat) (h0 : 0 < N) (hN : N ≤ 1000) (w : World) :
    Calls Tryz.prog 74 #[nilS, .int .i64 N] w fun e w' => ∃ v, e = .returned v ∧ w'.ownsRow w.heap.size TBs 1 v 0 [] ∧ Below w.heap.size w w' := by
  obtain ⟨i0, hi, hz0, hz1, hz2⟩ := info_parts infoS
  have hrun := Lib.run_append_nil_zeros (P := Tryz.prog) w TRs 3 TRs TBs i0 nilS .i64 .i64 underR Tryz.underlying3 hi hz0 N h0 (by omega) (by omega) (by rw [hz2]; omega)
  have hge := grownCap_ge w N 0 TBs
  have hle := grownCap_le_maxLen w N 0 TBs (by unfold maxLen; omega)
  obtain ⟨c, hc⟩ : ∃ c, grownCap w N 0 TBs = c := ⟨_, rfl⟩
  obtain ⟨cur, hcur⟩ : ∃ cur, Builtin.zeroCells nilS.cells N ++ Builtin.zeroCells nilS.cells (grownCap w N 0 TBs - N) = cur := ⟨_, rfl⟩
  have hsz : cur.size = c := by
    rw [← hcur, ← hc, Array.size_append, size_zeroCells, size_zeroCells]
    simp [Value.cells]
    omega
  rw [hcur, hc] at hrun
  rw [hc] at hge hle
  have HE : Hid ((w.drew.alloc (.cells cur TBs)).ownsRow w.heap.size TBs 1 (.slice (some ⟨w.heap.size, 0, none⟩) 0 c) 0 [] ∧ Below w.heap.size w (w.drew.alloc (.cells cur TBs))) :=
    Lib.hid ⟨⟨rfl, Or.inr ⟨w.heap.size, c, cur, rfl, Nat.le_refl _, World.alloc_heap_new w.drew _, Nat.zero_le _, hle, by rw [hsz, Nat.mul_one], rfl⟩⟩, (Below.refl _ w).drew.alloc (Nat.le_refl _) _⟩
  clear hcur hc
  have HRUN := Lib.hid hrun
  clear hrun
  go_enter Tryz.func74, Tryz.ntmps74
  go_wp2_with (at_builtin; refine Lib.wpList_append_run _ rfl _ _ _ _ rfl _ _ rfl rfl _ _ HRUN.out ?_)
  go_ret
  exact ⟨_, rfl, HE.out⟩

/-- in Concat's second loop -/
def ConAtR (n k : Nat) (K L : Nat → Value) (w0 : World) (s6 s27 : Value) (wr : World) : Prop :=
  Below w0.heap.size w0 wr ∧ ((s27 = .int .i64 0 ∧ wr.ownsRow w0.heap.size TBs 1 s6 0 []) ∨ (s27 = .int .i64 1 ∧ wr.ownsRow w0.heap.size TBs 1 s6 n ((List.range n).map K)) ∨ (s27 = .int .i64 2 ∧ wr.ownsRow w0.heap.size TBs 1 s6 (n + k) ((List.range n).map K ++ (List.range k).map L)))

set_option maxRecDepth 100000 in
set_option maxHeartbeats 2000000 in
theorem concat40 (b : Nat) (As Bs : Nat → Option Addr) (La Ca Lb Cb : Nat → Nat) (ad ad' : Addr) (n k ca cb g : Nat) (hn : n ≤ 100) (hk : k ≤ 100) (hnk : 0 < n + k) (w : World) (h1 : Rd b w (slis As La Ca) (some ad) n) (h2 : Rd b w (slis Bs Lb Cb) (some ad') k)
    (c0 : w.cell? ⟨g, 0, none⟩ = some (.slice (some ad) n ca)) (c1 : w.cell? ⟨g, 1, none⟩ = some (.slice (some ad') k cb)) :
    Calls Tryz.prog 40 #[.slice (some ⟨g, 0, none⟩) 2 2] w fun e w' => ∃ v, e = .returned v ∧ w'.ownsRow w.heap.size TBs 1 v (n + k) ((List.range n).map (slis As La Ca) ++ (List.range k).map (slis Bs Lb Cb)) ∧ Below w.heap.size w w' := by
  obtain ⟨i0, hi, hz0, hz1, hz2⟩ := info_parts infoS
  have H1 := Lib.hid h1
  have H2 := Lib.hid h2
  have hgl := World.block_lt_of_cell? w _ c0
  clear h1 h2
  go_enter Tryz.func40, Tryz.ntmps40
  go_wp2_with fail
  go_loop [3, 11] (fun s3 s11 => (s11 = .int .i64 0 ∧ s3 = .int .i64 0) ∨ (s11 = .int .i64 1 ∧ s3 = .int .i64 n) ∨ (s11 = .int .i64 2 ∧ s3 = .int .i64 (n + k : Nat))) (fun _ s11 => 2 - (intOf s11).toNat)
  case atStart => exact Or.inl ⟨rfl, rfl⟩
  case round =>
    rcases hrel with ⟨rfl, rfl⟩ | ⟨rfl, rfl⟩ | ⟨rfl, rfl⟩
    · have hd : decide ((n : Int) < 0) = false := by simp
      go_wp2_with fail
      exact ⟨Or.inr (Or.inl ⟨by go_num, by go_num⟩), by simp [intOf]⟩
    · have hd : decide ((n : Int) + (k : Int) < 0) = false := by simp; omega
      go_wp2_with fail
      exact ⟨Or.inr (Or.inr ⟨by go_num, by go_num⟩), by simp [intOf]⟩
    · go_wp2_with fail
      refine (grow74 (n + k) hnk (by omega) _).mono ?_
      rintro e w1 ⟨v, rfl, hown, hb1⟩
      have HST := Lib.hid (show ConAtR n k (slis As La Ca) (slis Bs Lb Cb) w v (.int .i64 0) w1 from ⟨hb1, Or.inl ⟨rfl, hown⟩⟩)
      clear hown hb1
      go_wp2_with fail
      go_loopw [6, 27] (fun s6 s27 wr => ConAtR n k (slis As La Ca) (slis Bs Lb Cb) w s6 s27 wr) (fun _ s27 _ => 2 - (intOf s27).toNat)
      case atStart => exact HST.out
      case round =>
        clear HST
        obtain ⟨hbel, hrel⟩ := hrel
        have HBEL := Lib.hid hbel
        have d0 : wr.cell? ⟨g, 0, none⟩ = some (.slice (some ad) n ca) := (hbel.cell hgl).trans c0
        have d1 : wr.cell? ⟨g, 1, none⟩ = some (.slice (some ad') k cb) := (hbel.cell hgl).trans c1
        have hsz := hbel.size
        clear hbel
        rcases hrel with ⟨rfl, hown⟩ | ⟨rfl, hown⟩ | ⟨rfl, hown⟩
        · have HO := Lib.hid hown
          clear hown
          go_wp2_with (at_builtin; refine append_rd _ rfl _ _ TRs rfl w.heap.size TBs i0 nilS 24 underR hi hz0 hz1 hz2 rfl _ _ _ rfl HO.out b _ _ _ _ rfl (fun h => by cases h) (H1.out.below HBEL.out) (one_slis _ _ _) (by unfold maxLen; omega) (by omega) hsz ?_)
          intro v' w2 hown2 hgr
          have HS := Lib.hid (show ConAtR n k (slis As La Ca) (slis Bs Lb Cb) w v' (.int .i64 1) w2 from ⟨HBEL.out.grown hgr hsz (fun q hq => (HO.out.lt q hq).1), Or.inr (Or.inl ⟨rfl, hown2⟩)⟩)
          clear hown2 hgr
          go_wp2_with fail
          exact ⟨HS.out, by simp [intOf]⟩
        · have HO := Lib.hid hown
          clear hown
          go_wp2_with (at_builtin; refine append_rd _ rfl _ _ TRs rfl w.heap.size TBs i0 nilS 24 underR hi hz0 hz1 hz2 rfl _ _ _ rfl HO.out b _ _ _ _ rfl (fun h => by cases h) (H2.out.below HBEL.out) (one_slis _ _ _) (by unfold maxLen; omega) (by omega) hsz ?_)
          intro v' w2 hown2 hgr
          have HS := Lib.hid (show ConAtR n k (slis As La Ca) (slis Bs Lb Cb) w v' (.int .i64 2) w2 from ⟨HBEL.out.grown hgr hsz (fun q hq => (HO.out.lt q hq).1), Or.inr (Or.inr ⟨rfl, hown2⟩)⟩)
          clear hown2 hgr
          go_wp2_with fail
          exact ⟨HS.out, by simp [intOf]⟩
        · have HO := Lib.hid hown
          clear hown
          go_wp2_with fail
          go_ret
          exact ⟨_, rfl, HO.out, HBEL.out⟩

theorem kept_rd {H b n : Nat} {W W' : World} {k : Nat → Value} {A : Option Addr} (h : Kept H W W') (hr : Rd b W k A n) : Rd b W' k A n := fun hn => by
  obtain ⟨ad, rfl, h1, h2, hc⟩ := hr hn
  refine ⟨ad, rfl, h1, Nat.lt_of_lt_of_le h2 h.size, fun j hj => ?_⟩
  have h5 := hc j hj
  obtain ⟨c, t, f, h6⟩ : ∃ c t f, W.heap[ad.block]? = some (.cells c t f) := by
    rw [← block_of_add (a := ad) (n := j)]
    unfold World.cell? at h5
    split at h5
    · exact ⟨_, _, _, ‹_›⟩
    · cases h5
  exact (World.cell?_of_block (by rw [block_of_add]; exact h.block _ h2 (Or.inr ⟨_, _, _, h6⟩))).trans h5

/-- rows that are changed one by one, in a list in a box -/
structure RbI (w : World) (g cg gb bs bh N S : Nat) (V Sv Hv : Value) (H : Nat → Nat → Nat) (W : World) : Prop where
  below : Below w.heap.size w W
  box : Boxed W gb TRs V
  bs : Boxed W bs TRs Sv
  bh : Boxed W bh TBos Hv
  rows : ∃ (Bs : Nat → Option Addr) (Ds : Nat → Nat) (K0 : Nat → Value), W.rowIs g TBs cg K0 ∧ (∀ r, r < N → K0 r = slis Bs (fun _ => S) Ds r) ∧ ∀ r, r < N → ∀ x, (x < w.heap.size ∨ x = g) → Rd x W (u8s (H r)) (Bs r) S
section
variable {w W W' : World} {g cg gb bs bh N S : Nat} {V Sv Hv : Value} {H H' : Nat → Nat → Nat}
theorem RbI.grow (h : RbI w g cg gb bs bh N S V Sv Hv H W) (hb : Below W.heap.size W W') : RbI w g cg gb bs bh N S V Sv Hv H W' := by
  obtain ⟨h1, h2, h3, h4, Bs, Ds, K0, h5, h6, h7⟩ := h
  exact ⟨below_tr h1 hb, boxed_block h2 (hb.block _ h2.lt), boxed_block h3 (hb.block _ h3.lt), boxed_block h4 (hb.block _ h4.lt), Bs, Ds, K0, h5.of_block (hb.block _ h5.lt), h6, fun r hr x hx => (h7 r hr x hx).below hb⟩
theorem RbI.put {r : Nat} {o o' : Obj} (h : RbI w g cg gb bs bh N S V Sv Hv H W) (h0 : w.heap.size ≤ r) (hr : W.heap[r]? = some o) (ho : o.isCells = false) : RbI w g cg gb bs bh N S V Sv Hv H (W.putObj r o') := by
  obtain ⟨h1, h2, h3, h4, Bs, Ds, K0, h5, h6, h7⟩ := h
  have hk : Kept 0 W (W.putObj r o') := Kept.of_putObj (Nat.zero_le _) hr ho
  exact ⟨h1.trans (below_put h0 o'), boxed_put h2 hr ho, boxed_put h3 hr ho, boxed_put h4 hr ho, Bs, Ds, K0, hk.row h5, h6, fun r hr x hx => kept_rd hk (h7 r hr x hx)⟩
theorem RbI.congr (h : RbI w g cg gb bs bh N S V Sv Hv H W) (he : ∀ r, r < N → H r = H' r) : RbI w g cg gb bs bh N S V Sv Hv H' W := by
  obtain ⟨h1, h2, h3, h4, Bs, Ds, K0, h5, h6, h7⟩ := h
  exact ⟨h1, h2, h3, h4, Bs, Ds, K0, h5, h6, fun r hr x hx => by rw [← he r hr]; exact h7 r hr x hx⟩
theorem RbI.step {x c' : Nat} {A' : Option Addr} {f : Nat → Nat} (h : RbI w g cg gb bs bh N S V Sv Hv H W) (hg : w.heap.size ≤ g) (h1 : gb ≠ g) (h2 : bs ≠ g) (h3 : bh ≠ g) (_ : x < N) (hr : ∀ y, (y < w.heap.size ∨ y = g) → Rd y W (u8s f) A' S) :
    RbI w g cg gb bs bh N S V Sv Hv (fun r => if r = x then f else H r) (W.setCell ⟨g, x, none⟩ (.slice A' S c')) := by
  obtain ⟨b1, b2, b3, b4, Bs, Ds, K0, h5, h6, h7⟩ := h
  have ht : Turned g W (W.setCell ⟨g, x, none⟩ (.slice A' S c')) := (Turned.refl g W).setCell x _
  refine ⟨b1.setCell (p := ⟨g, x, none⟩) hg _, boxed_block b2 (ht.block _ b2.lt h1), boxed_block b3 (ht.block _ b3.lt h2), boxed_block b4 (ht.block _ b4.lt h3), fun r => if r = x then A' else Bs r, fun r => if r = x then c' else Ds r, _, h5.set x _, fun r hr' => ?_, fun r hr' y hy => ?_⟩
  · simp only [slis]
    by_cases e : r = x
    · rw [if_pos e, if_pos e, if_pos e]
    · rw [if_neg e, if_neg e, if_neg e, h6 r hr']
  · dsimp only
    by_cases e : r = x
    · rw [if_pos e, if_pos e]
      exact rd_turn (hr g (Or.inr rfl)) (hr y hy) ht
    · rw [if_neg e, if_neg e]
      exact rd_turn (h7 r hr' g (Or.inr rfl)) (h7 r hr' y hy) ht
theorem RbI.bx (h : RbI w g cg gb bs bh N S V Sv Hv H W) (hg : w.heap.size ≤ g) (hc : N ≤ cg) {x : Nat} (hx : x < w.heap.size) : Bx x W H (fun _ => S) (some ⟨g, 0, none⟩) N := by
  obtain ⟨_, _, _, _, Bs, Ds, K0, h5, h6, h7⟩ := h
  exact ⟨Bs, Ds, (Rd.of_row h5 (by omega) hc).congr h6, fun r hr => h7 r hr x (Or.inl hx)⟩
end

/-- the shards, when j of those that are there stand in their places -/
def rebJ (p : Int) (K M : Nat) (h : Nat → Bool) (G F : Nat → Nat → Nat) (j r : Nat) : Nat → Nat := if h r = true ∧ cntT h r < j then F r else shF p K M G r
theorem rebJ_zero {p : Int} {K M : Nat} {h : Nat → Bool} {G F : Nat → Nat → Nat} (r : Nat) : rebJ p K M h G F 0 r = shF p K M G r := if_neg (fun e => by have := e.2; omega)
theorem rebJ_step {p : Int} {K M N : Nat} {h : Nat → Bool} {G F : Nat → Nat → Nat} {x j : Nat} (hx : x < N) (hh : h x = true) (hj : cntT h x = j) {r : Nat} (hr : r < N) : (if r = x then F x else rebJ p K M h G F j r) = rebJ p K M h G F (j + 1) r := by
  unfold rebJ
  by_cases e : r = x
  · subst e
    rw [if_pos rfl, if_pos ⟨hh, by omega⟩]
  · rw [if_neg e]
    by_cases e2 : h r = true ∧ cntT h r < j
    · rw [if_pos e2, if_pos ⟨e2.1, by omega⟩]
    · rw [if_neg e2, if_neg (fun e3 => ?_)]
      by_cases e4 : cntT h r < j
      · exact e2 ⟨e3.1, e4⟩
      · refine e ?_
        rw [← (atT_cnt (N := N) e3.1 hr).1, ← (atT_cnt (N := N) hh hx).1, show cntT h r = cntT h x by have := e3.2; omega]
theorem rebJ_all {p : Int} {K M N : Nat} {h : Nat → Bool} {F : Nat → Nat → Nat} {r : Nat} (hr : r < N) : rebJ p K M h (datF p K M (atT h N) F) F (cntT h N) r = rebF p K M N h F r := by
  funext i
  unfold rebJ rebF
  by_cases e : h r = true
  · rw [if_pos ⟨e, (atT_cnt e hr).2⟩, if_pos e]
  · rw [if_neg (fun e2 => e e2.1), if_neg e]
theorem others_below {W W' : World} (h : Below W.heap.size W W') : KeepsOthers W W' := ⟨h.size, fun k _ hk _ => (h.block k (Array.getElem?_eq_some_iff.1 hk).1).trans hk⟩
end Go.Proofs.YtgdgimknnjbieaaGreatDoor

namespace Go.Proofs.YtgdgimknnjbieaaGreatDoor
open Go.RowKit Go.Shelf
attribute [local go_sem] Oper.semAt_some

set_option maxRecDepth 100000 in
set_option maxHeartbeats 8000000 in
theorem reb13 (x0 : Nat) (p k m : Int) (As : Nat → Option Addr) (Ls Cs : Nat → Nat) (F : Nat → Nat → Nat) (hF : ∀ r j, F r j < 256) (A : Option Addr) (N c : Nat) (h : Nat → Bool) (hL : ∀ r, r < N → h r = true → Ls r ≤ 1000) (Ah : Option Addr) (Nh ch : Nat) (w : World) (hT : Tab w) (h0 : x0 < w.heap.size)
    (hr : Rd x0 w (slis As Ls Cs) A N) (hrs : ∀ r, r < N → h r = true → Rd x0 w (u8s (F r)) (As r) (Ls r)) (hh : Rd x0 w (bls h) Ah Nh) :
    Calls Tryz.prog 13 #[.agg (parA p k m), .slice A N c, .slice Ah Nh ch] w (RebSaid p k m N Nh h As Ls F w) := by
  obtain ⟨i0, hi, hz0, hz1, hz2⟩ := info_parts infoS
  obtain ⟨v, hv⟩ : ∃ v, w.alloc (.cells #[.int .i64 p, .int .i64 k, .int .i64 m] TPa) = v := ⟨_, rfl⟩
  obtain ⟨_, e0, hbv⟩ := one_box hv
  have E0 := Lib.hid e0
  have HV := Lib.hid hbv
  have HT := Lib.hid (hT.below hbv)
  have HR := Lib.hid hr
  have HRS := Lib.hid hrs
  have HH := Lib.hid hh
  have HL := Lib.hid hL
  have HFF := Lib.hid hF
  have hvz := hbv.size
  have HD := Lib.hid (data11 x0 p k m As Ls Cs F hF A N c h hL Ah Nh ch v HT.out (Nat.lt_of_lt_of_le h0 hvz) (hr.below hbv) (fun r hr e => (hrs r hr e).below hbv) (hh.below hbv))
  unfold DatSaid at HD
  obtain ⟨d0, d1, d2⟩ := box_three e0
  clear e0 hbv hr hrs hL hF hh hT
  by_cases hE : datE p k m N Nh h Ls = 0
  case neg =>
    obtain ⟨x, hx⟩ : ∃ x, datE p k m N Nh h Ls = x := ⟨_, rfl⟩
    have HEE := Lib.hid (show ∀ w', Below w.heap.size w w' → RebSaid p k m N Nh h As Ls F w (.returned (.tuple #[nilS, .int .i64 x])) w' from fun w' hb => RebSaid.no hx (by rw [← hx]; exact hE) hb)
    simp only [if_neg hE] at HD
    rw [hx] at HD hE
    have hne : (x != 0) = true := by simp [hE]
    clear hx hE
    go_enter Tryz.func13, Tryz.ntmps13
    go_wp2_with fail
    refine HD.out.mono ?_
    rintro e w1 ⟨v1, rfl, A1, c1, rfl, hc1, hx1, hb1⟩
    have H1 := Lib.hid (below_tr HV.out hb1)
    clear hb1 d0 d1 d2 hx1 HD E0
    go_wp2_with fail
    go_ret2
    exact HEE.out _ H1.out
  obtain ⟨⟨hX, hNK, hNh⟩, hfw, hev⟩ := datE_inv hE
  obtain ⟨K, rfl⟩ : ∃ K : Nat, k = K := ⟨k.toNat, by have := hX.2.1; omega⟩
  obtain ⟨M, rfl⟩ : ∃ M : Nat, m = M := ⟨m.toNat, by have := hX.2.2.1; omega⟩
  subst hNh
  have hK := hX.2.1
  have hM : 1 ≤ M ∧ M ≤ 4 := by have := hX.2.2; have := (max_pos hX.1).2; omega
  rw [Int.toNat_natCast] at hfw
  have HNK := Lib.hid (show Nh = K + M by omega)
  have hN12 : Nh ≤ 12 := by omega
  have hcl := cntT_le h Nh
  have HX := Lib.hid hX
  have hat0 := atT_spec (h := h) Nh (show 0 < cntT h Nh by omega)
  obtain ⟨S, hS⟩ : ∃ S, Ls (atT h Nh 0) = S := ⟨_, rfl⟩
  have hS2 : S ≤ 1000 := by rw [← hS]; exact HL.out _ hat0.1 hat0.2.1
  have HSE := Lib.hid (show S % nP p = 0 by have h5 := (hev 0 (by omega)).2; dsimp only at h5; rw [hS] at h5; exact h5)
  have HLS := Lib.hid (show ∀ r, r < Nh → h r = true → Ls r = S from fun r hr e => by
    have h1 := atT_cnt e hr
    have h2 := (hev _ h1.2).1
    dsimp only at h2
    rw [h1.1, hS] at h2
    exact h2)
  have HEE := Lib.hid (show ∀ A c w', Nh ≤ c → Below w.heap.size w w' → (∀ x, x < w.heap.size → Bx x w' (rebF p K M Nh h F) (fun _ => S) A Nh) → RebSaid p K M Nh Nh h As Ls F w (.returned (.tuple #[.slice A Nh c, .int .i64 0])) w' from fun A c w' h1 h2 h3 => by
    have hn : rebN p K M Nh Nh h Ls = Nh := if_pos hE
    refine ⟨A, c, by rw [hE, hn], by rw [hn]; exact h1, h2, fun x hx _ => ?_⟩
    rw [hn, Int.toNat_natCast, Int.toNat_natCast, hS]
    exact h3 x hx)
  simp only [hE, if_true, Int.toNat_natCast, hS] at HD
  have HG := Lib.hid (fun r j => datF_lt (p := p) (K := K) (m := M) (f := atT h Nh) (L := F) r j)
  obtain ⟨G, hG⟩ : ∃ G, datF p K M (atT h Nh) F = G := ⟨_, rfl⟩
  have HJA := Lib.hid (show ∀ r, r < Nh → rebJ p K M h G F (cntT h Nh) r = rebF p K M Nh h F r from fun r hr => by rw [← hG]; exact rebJ_all hr)
  rw [hG] at HD HG
  clear hG hS hE hX hNK hfw hev hat0 hcl
  refine (callsIn_wide (n := 5)).1 ?_
  refine callsIn_of_wp_marks Tryz.func13 rfl trivial ?_ rfl
  simp only [Tryz.ntmps13, List.size_toArray, List.length_cons, List.length_nil, Nat.reduceAdd, Nat.reduceSub, Array.replicate_succ, Array.replicate_zero, List.push_toArray, List.append_toArray, List.nil_append, List.cons_append]
  gi_wp2_with fail
  refine ⟨trivial, (callsIn_wide.2 HD.out).mono ?_⟩
  rintro e w1 ⟨v1, rfl, A1, c1, rfl, hc1, hx1, hb1⟩
  have H1 := Lib.hid (below_tr HV.out hb1)
  have HT1 := Lib.hid (HT.out.below hb1)
  have E1 := Lib.hid (kept_box E0.out hb1)
  obtain ⟨Bs, Ds, hxx⟩ := rows_at (H := w.heap.size) (fun g hg => hx1 g (by omega)) (show 0 < w.heap.size by omega)
  have HXX := Lib.hid hxx
  have h1z := H1.out.size
  clear hb1 d0 d1 d2 hx1 hxx HD E0 HT
  obtain ⟨d0, d1, d2⟩ := box_three E1.out
  gi_wp2_with fail
  refine ⟨trivial, (callsIn_wide.2 (par11 x0 p K M Bs (fun _ => S) Ds G HG.out A1 K c1 (by omega) hc1 (fun _ _ => hS2) _ HT1.out (HXX.out x0 h0).1 (HXX.out x0 h0).2)).mono ?_⟩
  rintro e w2 ⟨t, v2, rfl, ht, A2, c2, rfl, hc2, hx2, hb2⟩
  obtain rfl : t = true := ht.2 ⟨HX.out, rfl, fun _ _ => ⟨rfl, HSE.out⟩⟩
  simp only [cond_true, Int.toNat_natCast] at hx2 ⊢
  rw [show errOf true = 0 from rfl]
  have H2 := Lib.hid (below_tr H1.out hb2)
  have h2z := H2.out.size
  obtain ⟨Us, Vs, hyy⟩ := rows_at (H := w.heap.size) (fun g hg => hx2 g (by omega)) (show 0 < w.heap.size by omega)
  have HYY := Lib.hid hyy
  have HXX2 := Lib.hid (show ∀ x, x < w.heap.size → Rd x w2 (slis Bs (fun _ => S) Ds) A1 K ∧ ∀ r, r < K → Rd x w2 (u8s (G r)) (Bs r) S from fun x hx => ⟨(HXX.out x hx).1.below hb2, fun r hr => ((HXX.out x hx).2 r hr).below hb2⟩)
  clear hb2 hx2 hyy d0 d1 d2 ht E1 HXX HT1
  obtain ⟨ad1, e1, _⟩ := (HXX2.out x0 h0).1 (by omega)
  obtain ⟨ad2, e2, _⟩ := (HYY.out x0 h0).1 (by omega)
  subst e1
  subst e2
  obtain ⟨w2a, hw2a⟩ : ∃ w2a, w2.alloc (.cells #[.slice (some ad1) K c1, .slice (some ad2) M c2] TRs) = w2a := ⟨_, rfl⟩
  have hb2a : Below w2.heap.size w2 w2a := by rw [← hw2a]; exact below_alloc _ _
  have q0 : w2a.cell? ⟨w2.heap.size, 0, none⟩ = some (.slice (some ad1) K c1) := by rw [← hw2a]; simp
  have q1 : w2a.cell? ⟨w2.heap.size, 1, none⟩ = some (.slice (some ad2) M c2) := by rw [← hw2a]; simp
  have HCC := Lib.hid (concat40 x0 Bs Us (fun _ => S) Ds (fun _ => S) Vs ad1 ad2 K M c1 c2 w2.heap.size (by omega) (by omega) (by omega) w2a ((HXX2.out x0 h0).1.below hb2a) ((HYY.out x0 h0).1.below hb2a) q0 q1)
  have H2A := Lib.hid hb2a
  clear hb2a q0 q1
  gi_wp2_with fail
  refine ⟨trivial, (callsIn_wide.2 HCC.out).mono ?_⟩
  rintro e w3 ⟨v3, rfl, hown3, hb3⟩
  rw [slis_cat, ← HNK.out] at hown3
  obtain ⟨g, cg, K0, rfl, hg, hcg, hrow, hk0⟩ := own_rowK hown3 (by have := HNK.out; omega)
  have HROW := Lib.hid hrow
  have HK0 := Lib.hid hk0
  have H3 := Lib.hid (below_tr H2A.out hb3)
  have h2az := H2A.out.size
  have h3z := hb3.size
  have hgl := hrow.lt
  clear hown3 hb3 hrow hk0 HCC H2A hw2a
  obtain ⟨w4, hw4⟩ : ∃ w4, w3.alloc (.cells #[.slice (some ⟨g, 0, none⟩) Nh cg] TRs) = w4 := ⟨_, rfl⟩
  have q4 : Boxed w4 w3.heap.size TRs (.slice (some ⟨g, 0, none⟩) Nh cg) := by rw [← hw4]; exact Boxed.new w3 TRs _
  have hb4 : Below w3.heap.size w3 w4 := by rw [← hw4]; exact below_alloc _ _
  have hs4 : w4.heap.size = w3.heap.size + 1 := by rw [← hw4]; simp
  have HQ4 := Lib.hid q4
  have HB4 := Lib.hid hb4
  have HS4 := Lib.hid hs4
  clear q4 hb4 hs4
  gi_wp2_with fail
  refine ⟨trivial, (callsIn_wide.2 (present41 A Nh c Ah Nh ch w4)).mono ?_⟩
  rintro e w6 ⟨rfl, hw6⟩
  rw [HS4.out]
  have hgw : w.heap.size ≤ g := by omega
  have HC := Lib.hid (show RbI w g cg w3.heap.size (w3.heap.size + 1) (w3.heap.size + 1 + 1) Nh S (.slice (some ⟨g, 0, none⟩) Nh cg) (.slice A Nh c) (.slice Ah Nh ch) (rebJ p K M h G F 0) w6 from by
    have hb6 : Below w4.heap.size w4 w6 := by rw [← hw6]; exact (below_alloc w4 _).alloc (by simp) _
    have hb36 : Below w3.heap.size w3 w6 := below_tr HB4.out hb6
    refine ⟨below_tr (below_tr H2.out H3.out) hb36, boxed_block HQ4.out (hb6.block _ HQ4.out.lt), ?_, ?_, catC K Bs Us, catC K Ds Vs, K0, HROW.out.of_block (hb36.block _ hgl), HK0.out, fun r hr x hx => ?_⟩
    · rw [← hw6, ← HS4.out]
      exact (Boxed.new w4 TRs _).alloc _
    · rw [← hw6, ← HS4.out]
      have := Boxed.new (w4.alloc (.cells #[.slice A Nh c] TRs)) TBos (.slice Ah Nh ch)
      rwa [World.size_alloc] at this
    · rw [rebJ_zero]
      have hall : ∀ y, y < w.heap.size → Rd y w2 (u8s (shF p K M G r)) (catC K Bs Us r) S := fun y hy => by
        by_cases hrK : r < K
        · rw [catC_lt hrK]
          exact ((HXX2.out y hy).2 r hrK).congr (fun j _ => by simp only [u8s]; unfold shF; rw [if_pos hrK])
        · obtain ⟨q, rfl⟩ : ∃ q, r = K + q := ⟨r - K, by omega⟩
          rw [catC_ge]
          exact ((HYY.out y hy).2 q (by have := HNK.out; omega)).congr (fun j _ => by simp only [u8s]; unfold shF; rw [if_neg (by omega), Nat.add_sub_cancel_left])
      have h8 : Rd x w2 (u8s (shF p K M G r)) (catC K Bs Us r) S := by
        rcases hx with hx | hx
        · exact hall x hx
        · exact (hall x0 h0).above (by omega)
      exact (h8.below H3.out).below hb36)
  have h6z : w3.heap.size + 3 ≤ w6.heap.size := by rw [← hw6]; simp; have := HS4.out; omega
  have hg3 : g < w3.heap.size := hgl
  have hw3z : w.heap.size ≤ w3.heap.size := by omega
  clear hw6 hw4 HQ4 HB4 HROW HK0 H3 HXX2 HYY
  gi_wp2_with fail
  refine' range_law (by omega) (gf := 75) (lb := #[.pointer (some ⟨w3.heap.size + 1, 0, none⟩), .pointer (some ⟨w3.heap.size + 1 + 1, 0, none⟩)]) rfl (enters_of Tryz.func75 (by kernel_rfl) rfl)
    (encs := fun x : Nat => #[.int .i64 x, .slice (As x) (Ls x) (Cs x)]) (fun _ => rfl) (pre_hand 4 x0 (w3.heap.size + 1) (w3.heap.size + 1 + 1) As Ls Cs A Nh c h Ah Nh ch (by omega) (Nat.le_refl _) (by omega))
    (fun j W => RbI w g cg w3.heap.size (w3.heap.size + 1) (w3.heap.size + 1 + 1) Nh S (.slice (some ⟨g, 0, none⟩) Nh cg) (.slice A Nh c) (.slice Ah Nh ch) (rebJ p K M h G F j) W)
    (fun j W hC => ⟨hC.bs.cell, hC.bh.cell, HR.out.below hC.below, HH.out.below hC.below⟩) (fun j X Y hC hb => hC.grow hb) (fun j X r o o' hC hr ho hc => hC.put (by omega) ho hc) (fun j x X₀ X r o o' hx ho hc => hx) HC.out _ ?assign ?body ?done
  case assign =>
    intro l x W k hK
    gi_wp2_with fail
    exact hK
  case body =>
    intro l j x W0 W hC hbel hj2 hx
    have HC := Lib.hid (hC.grow hbel)
    obtain ⟨x1, x2, x3⟩ := hx
    have HSTEP := Lib.hid (fun r (hr : r < Nh) => rebJ_step (p := p) (K := K) (M := M) (G := G) (F := F) x1 x2 x3 hr)
    have hlx := HLS.out x x1 x2
    have hrx := (HRS.out x x1 x2).below HC.out.below
    rw [hlx] at hrx ⊢
    have HRX := Lib.hid hrx
    have c1' := HC.out.box.cell
    have hwz := HC.out.below.size
    have hgW : g < W.heap.size := by
      obtain ⟨_, _, _, h5, _⟩ := HC.out.rows
      exact h5.lt
    have HCD := Lib.hid (HC.out.grow (Below.refl _ W).drew)
    have hS : W.drew.cell? ⟨w3.heap.size, 0, none⟩ = some (.slice (some ⟨g, 0, none⟩) Nh cg) := c1'
    have hxI : (x : Int) < (Nh : Int) := by omega
    clear hC hbel x2 x3 hlx hrx
    try dsimp only
    gi_wp2_with fail
    refine region_in_round (fun w' => w'.cell? ⟨w3.heap.size, 0, none⟩ = some (.slice (some ⟨g, 0, none⟩) Nh cg)) 6 rfl (by kernel_rfl) (by kernel_rfl) ?_
    refine takeL (i := 0) (v := .slice (some ⟨g, 0, none⟩) Nh cg) rfl (by kernel_rfl) (by kernel_rfl) (by kernel_rfl) rfl (fun w' hSw => ?tk0) hS ?_
    case tk0 =>
      try dsimp only at hSw
      go_simp
    try simp only [Act.put, List.setIfInBounds_toArray, List.set_cons_zero, List.set_cons_succ]
    refine takeL (i := 1) (v := .int .i64 x) rfl (by kernel_rfl) (by kernel_rfl) (by kernel_rfl) rfl (fun w' hSw => ?tk1) hS ?_
    case tk1 => go_simp
    try simp only [Act.put, List.setIfInBounds_toArray, List.set_cons_zero, List.set_cons_succ]
    refine takeL (i := 2) (v := .slice (As x) S (Cs x)) rfl (by kernel_rfl) (by kernel_rfl) (by kernel_rfl) rfl (fun w' hSw => ?tk2) hS ?_
    case tk2 => go_simp
    try simp only [Act.put, List.setIfInBounds_toArray, List.set_cons_zero, List.set_cons_succ]
    refine stepL (i := 3) (by kernel_rfl) rfl rfl (fun k hK => ?_)
    go_simp
    refine (clone41 x0 (F x) (As x) S (Cs x) (by omega) W.drew HRX.out.drew).mono ?_
    rintro e w7 ⟨A7, c7, rfl, hown7, hb7⟩
    have HC7 := Lib.hid (HCD.out.grow hb7)
    have hS7 := HC7.out.box.cell
    have HE := Lib.hid (HC7.out.step (x := x) (c' := c7) (A' := A7) (f := F x) hgw (by omega) (by omega) (by omega) x1 (fun y hy => hown7.rd (show y < W.drew.heap.size by
      show y < W.heap.size
      rcases hy with hy | hy <;> omega)))
    obtain ⟨_, _, K7, hrw, _⟩ := HC7.out.rows
    have hcgx : x < cg := by omega
    have k1 := hrw.cell hcgx
    have k2 := hrw.frozen x
    have hS8 := HE.out.box.cell
    have HKO := Lib.hid (((KeepsOthers.drew W).trans (others_below hb7)).trans (KeepsOthers.setCell w7 ⟨g, x, none⟩ (.slice A7 S c7)))
    clear hown7 hb7 hrw
    dsimp only
    refine hK _ _ hS7 ?_
    clear hK k
    try simp only [Act.put, List.setIfInBounds_toArray, List.set_cons_zero, List.set_cons_succ]
    refine takeL (i := 4) (v := .pointer (some ⟨g, x, none⟩)) rfl (by kernel_rfl) (by kernel_rfl) (by kernel_rfl) rfl (fun w' hSw => ?tk4) hS7 ?_
    case tk4 => go_simp
    try simp only [Act.put, List.setIfInBounds_toArray, List.set_cons_zero, List.set_cons_succ]
    refine stepL (i := 5) (by kernel_rfl) rfl rfl (fun k hK => ?_)
    go_simp
    refine hK _ _ hS8 ?_
    clear hK k
    try simp only [Act.put, List.setIfInBounds_toArray, List.set_cons_zero, List.set_cons_succ]
    refine wpAnyH_done (by kernel_rfl) ?_ _
    dsimp only [OnlyN]
    gi_wp2_with fail
    exact ⟨HKO.out.from _, HE.out.congr HSTEP.out⟩
  case done =>
    rintro D W hD hC hK
    have b2 := hC.box.cell
    have HCP := Lib.hid ((hC.put (o' := .deferred none) (show w.heap.size ≤ D by omega) hK rfl).congr HJA.out)
    have HQ := Lib.hid (HEE.out (some ⟨g, 0, none⟩) cg _ hcg HCP.out.below (fun x hx => HCP.out.bx hgw hcg hx))
    clear hC
    gi_wp2_with fail
    refine ⟨by simp, .inl ⟨_, _, rfl, run_takeDeferred hK, ?_⟩⟩
    exact ⟨_, results_tmp2 (t := 6) (u := 7) rfl _ _ _, HQ.out⟩
end Go.Proofs.YtgdgimknnjbieaaGreatDoor
