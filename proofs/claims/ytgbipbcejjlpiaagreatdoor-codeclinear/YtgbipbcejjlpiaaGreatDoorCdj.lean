/- Layer 11: the contract of Parity. -/
import Derived.Test.YtgbipbcejjlpiaaGreatDoorCdi
import Derived.Test.YtgbipbcejjlpiaaGreatDoorGyb
namespace Go.Proofs.YtgbipbcejjlpiaaGreatDoor
open Go.RowKit

theorem dot_back {p n K N : Nat} {cs : Nat → Int} {Ls : Nat → Nat} (h : DotOk p n K N cs Ls) : N = K ∧ ∀ r, r < N → Ls r = Ls 0 ∧ Ls r % n = 0 :=
  ⟨h.1.symm, fun r hr => ⟨(h.2.2 r (by have := h.1; omega)).2.2, (h.2.2 r (by have := h.1; omega)).2.1⟩⟩

/-- how many elements a slice has -/
def slLen : Value → Nat
  | .slice _ n _ => n
  | _ => 0

/-- the box behind t of M rows -/
def BoxAt (b g M K t : Nat) (As : Nat → Option Addr) (Cs : Nat → Nat) (w0 wr : World) : Prop :=
  ∃ A c, M - t ≤ c ∧ wr.rowIs g TM 1 (fun _ => .slice A (M - t) c) ∧ ∀ x, (x = b ∨ x = g) → Rd x w0 (slis (fun j => As (t + j)) (fun _ => K) (fun j => Cs (t + j))) A (M - t)
theorem BoxAt.other {b g M K t : Nat} {As : Nat → Option Addr} {Cs : Nat → Nat} {w0 wr w1 : World} (h : BoxAt b g M K t As Cs w0 wr) (e : w1.heap[g]? = wr.heap[g]?) : BoxAt b g M K t As Cs w0 w1 := by
  obtain ⟨A, c, h1, h2, h3⟩ := h
  exact ⟨A, c, h1, h2.of_block e, h3⟩
theorem BoxAt.lt {b g M K t : Nat} {As : Nat → Option Addr} {Cs : Nat → Nat} {w0 wr : World} (h : BoxAt b g M K t As Cs w0 wr) : g < wr.heap.size := by
  obtain ⟨_, _, _, h2, _⟩ := h
  exact h2.lt
theorem turned_box (g : Nat) (w : World) (v : Value) : Turned g w (w.setCell ⟨g, 0, none⟩ v) := (Turned.refl g w).setCell 0 v

/-- what the closure tells behind t rows -/
def NextSaid (b g M K t : Nat) (As : Nat → Option Addr) (Cs : Nat → Nat) (w0 w : World) (e : Ending) (w' : World) : Prop :=
  ∃ s ok, e = .returned (.tuple #[s, .bool ok]) ∧ ((t < M ∧ ok = true ∧ s = .slice (As t) K (Cs t)) ∨ (M ≤ t ∧ ok = false ∧ s = nilS)) ∧ BoxAt b g M K (t + 1) As Cs w0 w' ∧ Turned g w w' ∧ ∀ p wd, Fld p b wd w → Fld p b wd w'
theorem next_at {b g M K t : Nat} {As : Nat → Option Addr} {Cs : Nat → Nat} {w0 w : World} (h : BoxAt b g M K t As Cs w0 w) (hs : Turned2 b g w0 w) (h1 : TM ≠ TF) (h2 : TM ≠ T16) :
    Calls Tryz.prog 42 #[.pointer (some ⟨g, 0, none⟩)] w (NextSaid b g M K t As Cs w0 w) := by
  obtain ⟨A, c, hc, hb, hr⟩ := h
  by_cases ht : t < M
  · obtain ⟨n, hn⟩ : ∃ n, M - t = n + 1 := ⟨M - t - 1, by omega⟩
    rw [hn] at hc hb hr
    have hrb := hr b (Or.inl rfl)
    have hrg := hr g (Or.inr rfl)
    refine (next_yes g g A n c _ _ _ w hb (rd_turn2 hrb hrg hrg hs)).mono ?_
    rintro e w' ⟨rfl, rfl⟩
    refine ⟨_, true, rfl, Or.inl ⟨ht, rfl, rfl⟩, ⟨if c = 1 then A else A.map (·.add 1), c - 1, by omega, ?_, fun x hx => ?_⟩, turned_box _ _ _, fun p wd hf => hf.setRow hb h1 h2 _⟩
    · rw [show M - (t + 1) = n by omega]
      exact (hb.set 0 _).congr (fun i hi => by rw [if_pos (by omega)])
    · rw [show M - (t + 1) = n by omega]
      have h5 := (hr x hx).cut (i := 1) (cap := c) (by omega) hc
      rw [Nat.add_sub_cancel] at h5
      exact h5.congr (fun j _ => by simp only [slis]; rw [show t + (1 + j) = t + 1 + j by omega])
  · have h0 : M - t = 0 := by omega
    rw [h0] at hc hb hr
    refine (next_no g A c w hb).mono ?_
    rintro e w' ⟨rfl, rfl⟩
    exact ⟨_, false, rfl, Or.inr ⟨by omega, rfl, rfl⟩, ⟨A, c, by omega, by rw [show M - (t + 1) = 0 by omega]; exact hb, fun x hx => by rw [show M - (t + 1) = 0 by omega]; exact Rd.zero⟩, Turned.refl _ _, fun _ _ h => h⟩

theorem make_roomR (n : Nat) (hn : n ≤ 100) (w : World) : (Instr.makeSlice TRs (.int .i64 0) (.int .i64 (n : Int))).run Tryz.prog w = .ok (.slice (some ⟨w.heap.size, 0, none⟩) 0 n) (w.alloc (.cells (madeCells #[nilS] n) TBs)) := by
  obtain ⟨i0, hi, hz0, hz1, hz2⟩ := info_parts infoS
  have h := run_makeSlice (P := Tryz.prog) w TRs TBs i0 nilS Tryz.underlying24 hi hz0 .i64 .i64 0 (n : Int) (by omega) (by omega) (by rw [hz1]; omega) (by rw [hz2]; omega) (by omega)
  rw [hz1, Nat.mul_one, Int.toNat_natCast] at h
  exact h

/-- what Parity tells; its rows have room for all their bytes -/
def CParC (p k m : Int) (N : Nat) (Ls : Nat → Nat) (F : Nat → Nat → Nat) (w : World) (e : Ending) (w' : World) : Prop := CParSaid p k m N Ls F w e w' ∧ OutCaps e w'
theorem CParC.no {p k m : Int} {N : Nat} {Ls : Nat → Nat} {F : Nat → Nat → Nat} {w w' : World} (h : ¬ parP p k m N Ls) (hb : Below w.heap.size w w') : CParC p k m N Ls F w (.returned (.tuple #[nilS, .int .i64 1])) w' := ⟨CParSaid.no h hb, OutCaps.of (Caps.zero _ _)⟩
/-- in Parity's loop -/
def CParAt (p : Int) (K M N b g : Nat) (Ls : Nat → Nat) (F : Nat → Nat → Nat) (As : Nat → Option Addr) (Cs : Nat → Nat) (w0 : World) (s9 s10 s11 : Value) (wr : World) : Prop :=
  ∃ i : Nat, i ≤ M ∧ CoS (qP p).p b (wdP p) g w0 (parF p K M F) (Ls 0) i s9 wr ∧ slLen s9 = i ∧ BoxAt b g M K (i + 1) As Cs w0 wr ∧ (0 < i → N = K ∧ evenP p N Ls) ∧
    ((i < M ∧ s11 = .bool true ∧ s10 = .slice (As i) K (Cs i)) ∨ (M ≤ i ∧ s11 = .bool false ∧ s10 = nilS))

set_option maxRecDepth 100000 in
set_option maxHeartbeats 4000000 in
theorem par11' (x0 : Nat) (p k m : Int) (As : Nat → Option Addr) (Ls Cs : Nat → Nat) (F : Nat → Nat → Nat) (hF : ∀ r j, F r j < 256) (A : Option Addr) (N c : Nat) (hN : N ≤ 1000) (hNc : N ≤ c) (hL : ∀ r, r < N → Ls r ≤ 1000) (w : World) (hT : Tab w)
    (hr : Rd x0 w (slis As Ls Cs) A N) (hrs : ∀ r, r < N → Rd x0 w (u8s (F r)) (As r) (Ls r)) :
    Calls Tryz.prog 11 #[.agg (parA p k m), .slice A N c] w (CParC p k m N Ls F w) := by
  obtain ⟨i0, hi, hz0, hz1, hz2⟩ := info_parts infoS
  obtain ⟨v, hv⟩ : ∃ v, w.alloc (.cells #[.int .i64 p, .int .i64 k, .int .i64 m] TPa) = v := ⟨_, rfl⟩
  obtain ⟨_, e0, hbv⟩ := one_box hv
  have E0 := Lib.hid e0
  have HV := Lib.hid hbv
  have HT := Lib.hid (hT.below hbv)
  have HR := Lib.hid (fun x (hx : w.heap.size ≤ x) => hr.above hx)
  have HRS := Lib.hid (fun x (hx : w.heap.size ≤ x) r hr' => (hrs r hr').above hx)
  have HL := Lib.hid hL
  have HFF := Lib.hid hF
  obtain ⟨d0, d1, d2⟩ := box_three e0
  clear e0 hbv hr hrs hL hF hT
  go_enter Tryz.func11, Tryz.ntmps11
  go_wp2_with fail
  refine (rows20 p k m _ HT.out).mono ?_
  rintro e w1 ⟨hb1, hq⟩
  have H1 := Lib.hid (below_tr HV.out hb1)
  have HT1 := Lib.hid (HT.out.below hb1)
  have E1 := Lib.hid (kept_box E0.out hb1)
  clear hb1 d0 d1 d2
  obtain ⟨d0, d1, d2⟩ := box_three E1.out
  rcases hq with ⟨hno, rfl⟩ | ⟨hX, g, A1, c1, Bs, Ds, rfl, hg0, hc1, hbx, hR1⟩
  · have HE := Lib.hid (CParC.no (F := F) (p := p) (k := k) (m := m) (N := N) (Ls := Ls) (fun h => hno h.1) H1.out)
    clear hno
    go_wp2_with fail
    go_ret2
    exact HE.out
  obtain ⟨K, M, rfl, rfl, sK, sN, hs, _, _⟩ := hX.nat
  rw [Int.toNat_natCast, Int.toNat_natCast] at hR1
  rw [Int.toNat_natCast] at hc1 hbx
  have HX := Lib.hid hX
  have HG0 := Lib.hid (show v.heap.size ≤ g from hg0)
  have HB1 := Lib.hid hbx
  have HR1 := Lib.hid hR1
  have hgl := hbx.lt
  have hM1 := hX.2.2.1
  have hM4 : M ≤ 4 := by have := (max_pos hX.1).2; have := hX.2.2.2; omega
  have hK1 := hX.2.1
  clear hX hg0 hbx hR1 sK sN hs
  go_wp2_with fail
  refine (pfield_yes p HX.out.1 _ HT1.out).mono ?_
  rintro e w2 ⟨b, rfl, hf, hn, hb2⟩
  have H2 := Lib.hid (below_tr H1.out hb2)
  have E2 := Lib.hid (kept_box E1.out hb2)
  have HF2 := Lib.hid hf
  have hbl := hf.lt
  have hwv := HV.out.size
  have hv1 := H1.out.size
  have hwg : w.heap.size ≤ g := Nat.le_trans hwv HG0.out
  have hwb : w.heap.size ≤ b := by omega
  have hgw : g < w2.heap.size := Nat.lt_of_lt_of_le hgl hb2.size
  have hbg : b ≠ g := by omega
  have hbw2 : b < w2.heap.size := hbl
  have HQ1 := Lib.hid (show ∀ x, (x = b ∨ x = g) → Rd x w2 (slis Bs (fun _ => K) Ds) A1 M ∧ ∀ r, r < M → Rd x w2 (i64s (ivs (rowsE p K M) r)) (Bs r) K from fun x hx => by
    have h5 := HR1.out x (by rcases hx with rfl | rfl; exact Or.inr hn; exact Or.inl rfl)
    exact ⟨h5.1.below hb2, fun r hr => (h5.2 r hr).below hb2⟩)
  have HD := Lib.hid (show ∀ x, (x = b ∨ x = g) → Rd x w2 (slis As Ls Cs) A N ∧ ∀ r, r < N → Rd x w2 (u8s (F r)) (As r) (Ls r) from fun x hx => by
    have h5 : w.heap.size ≤ x := by rcases hx with rfl | rfl <;> omega
    exact ⟨(HR.out x h5).below H2.out, fun r hr => (HRS.out x h5 r hr).below H2.out⟩)
  have HBX := Lib.hid (HB1.out.of_block (hb2.block _ hgl))
  have hmk := make_roomR M (by omega)
  clear hb2 d0 d1 d2 hf hn HB1 HR1 HT1 HR HRS E1 H1 HG0 hgl hwv hv1
  obtain ⟨d0, d1, d2⟩ := box_three E2.out
  obtain ⟨w3, hw3⟩ : ∃ w3, w2.alloc (.cells (madeCells #[nilS] M) TBs) = w3 := ⟨_, rfl⟩
  have hb3 : Below w2.heap.size w2 w3 := by rw [← hw3]; exact below_alloc _ _
  have HC3 := Lib.hid (show CoS (qP p).p b (wdP p) g w2 (parF p K M F) (Ls 0) 0 (.slice (some ⟨w2.heap.size, 0, none⟩) 0 M) w3 from by rw [← hw3]; exact CoS.start HF2.out _ _ (by unfold maxLen; omega) (size_madeCells _ _))
  have HX3 := Lib.hid (show BoxAt b g M K 0 Bs Ds w2 w3 from ⟨A1, c1, hc1, HBX.out.of_block (hb3.block _ hgw), fun x hx => ((HQ1.out x hx).1).congr (fun j _ => by simp only [slis]; rw [Nat.zero_add])⟩)
  clear hb3 hc1
  go_wp2_with fail
  clear hw3 hmk d0 d1 d2
  refine (next_at (b := b) (t := 0) (w0 := w2) HX3.out HC3.out.same (by decide) (by decide)).mono ?_
  rintro e w4 ⟨s4, ok4, rfl, hcase, hbx4, ht4, hf4⟩
  have HC4 := Lib.hid (HC3.out.box hgw (hf4 _ _ HC3.out.fld) ht4)
  have HX4 := Lib.hid hbx4
  obtain ⟨_, rfl, rfl⟩ | ⟨h, _⟩ := hcase
  case inr => omega
  have h20 : 0 < w2.heap.size := by omega
  clear hbx4 ht4 hf4 HC3 HX3 HBX
  go_wp2_with fail
  go_loopw [9, 10, 11] (fun s9 s10 s11 wr => CParAt p K M N b g Ls F Bs Ds w2 s9 s10 s11 wr) (fun s9 _ _ _ => M - slLen s9)
  case atStart => exact ⟨0, Nat.zero_le _, HC4.out, rfl, HX4.out, fun h => absurd h (by omega), Or.inl ⟨by omega, rfl, rfl⟩⟩
  case round =>
    clear HC4 HX4
    obtain ⟨i, hiM, hcs, hlen, hbx, hev, hcase⟩ := hrel
    have HCS := Lib.hid hcs
    have HBX := Lib.hid hbx
    have HEV := Lib.hid hev
    have HLN := Lib.hid hlen
    have hzr := hcs.same.size
    clear hcs hbx hev hlen
    rcases hcase with ⟨hlt, rfl, rfl⟩ | ⟨hge, rfl, rfl⟩
    · have HC := Lib.hid (dot_any (qP p).p b (wdP p) (nP p) (wideP p) (fun c => ivs (rowsE p K M) i c) F HFF.out (Bs i) K N (Ds i) c hN As Ls Cs A HL.out wr HCS.out.fld
        (rd_turn2 ((HQ1.out b (Or.inl rfl)).2 i hlt) ((HQ1.out g (Or.inr rfl)).2 i hlt) ((HQ1.out b (Or.inl rfl)).2 i hlt) HCS.out.same)
        (rd_turn2 (HD.out b (Or.inl rfl)).1 (HD.out g (Or.inr rfl)).1 (HD.out b (Or.inl rfl)).1 HCS.out.same) hNc
        (fun r hr => rd_turn2 ((HD.out b (Or.inl rfl)).2 r hr) ((HD.out g (Or.inr rfl)).2 r hr) ((HD.out b (Or.inl rfl)).2 r hr) HCS.out.same))
      go_wp2_with fail
      refine HC.out.mono ?_
      rintro e w6 ⟨t, A6, c6, rfl, ht, _, hf6, ht6, hcap, hall⟩
      have HC6 := Lib.hid (HCS.out.turn hbw2 hf6 ht6)
      have HB6 := Lib.hid (HBX.out.other (ht6.block _ HBX.out.lt (fun e => hbg e.symm)))
      cases t
      · have HE := Lib.hid (CParC.no (F := F) (p := p) (k := K) (m := M) (N := N) (Ls := Ls) (w' := w6) (fun h => by
          have h2 := h.2.1
          obtain rfl : N = K := by omega
          have := ht.2 (dot_ok (by omega) h.2.2)
          cases this) (H2.out.trans (HC6.out.same.below hwb hwg H2.out.size)))
        rw [show errOf false = 1 from rfl]
        clear ht hf6 ht6 hall HC
        go_wp2_with fail
        go_ret2
        exact HE.out
      · have HOK := Lib.hid (dot_back (ht.1 rfl))
        simp only [cond_true] at hall hcap ⊢
        have HCAP := Lib.hid hcap
        clear hcap
        rw [show errOf true = 0 from rfl]
        obtain ⟨hcf, hcsm, Qs, Es, hown, hrow⟩ := HC6.out
        have HOWN := Lib.hid hown
        have HROW := Lib.hid hrow
        have HCF := Lib.hid hcf
        have HSM := Lib.hid hcsm
        have HRY := Lib.hid (show ∀ x, (x < w2.heap.size ∨ u9.ownBlock = some x) → Rd x w6 (u8s (parF p K M F i)) A6 (Ls 0) from fun x hx => by
          have e : parF p K M F i = dotB (qP p).p (nP p) (fun c => ivs (rowsE p K M) i c) F K := rfl
          rw [e]
          refine hall x ?_
          rcases hx with hx | hx
          · exact Nat.lt_of_lt_of_le hx hzr
          · obtain ⟨_, _, h5, _⟩ := HCS.out.list
            exact (h5.lt x hx).2)
        have hsz6 := hcsm.size
        clear ht hf6 ht6 hall HC hown hrow hcf hcsm HCS HBX
        go_wp2_with (at_builtin; refine wpList_append_lies _ rfl _ _ TRs rfl w2.heap.size TBs i0 nilS 1 24 Tryz.underlying24 hi hz0 hz1 hz2 rfl (by decide) _ i _ rfl (HOWN.out.alloc _) ⟨w6.heap.size, 0, none⟩ 1 1 [.slice A6 (Ls 0) c6] rfl rfl (news_one rfl) (one_slice' _ _ _) (by omega) (by unfold maxLen; omega) (by omega) (by simp; omega) _ rfl ?_)
        intro g' cap' w7 hown2 hgr2 hg2 _
        have HS := Lib.hid (CoS.step (F := parF p K M F) (S := Ls 0) HCF.out HSM.out h20 HOWN.out HROW.out ⟨HCAP.out, HRY.out⟩ hown2 hgr2 hg2 (by decide) (by decide))
        have HB7 := Lib.hid (HB6.out.other ((hgr2.block g (by simp; have := HB6.out.lt; omega) (fun e => by
          have := (HOWN.out.lt g e.symm).1
          omega)).trans ((below_alloc w6 _).block g HB6.out.lt)))
        clear hown2 hgr2 hg2
        go_wp2_with fail
        refine (next_at (b := b) (t := i + 1) (w0 := w2) HB7.out HS.out.same (by decide) (by decide)).mono ?_
        rintro e w8 ⟨s8, ok8, rfl, hcase, hbx8, ht8, hf8⟩
        have HC8 := Lib.hid (HS.out.box hgw (hf8 _ _ HS.out.fld) ht8)
        have HX8 := Lib.hid hbx8
        have HCA := Lib.hid hcase
        have HEE := Lib.hid (show CParAt p K M N b g Ls F Bs Ds w2 (.slice (some ⟨g', 0, none⟩) (i + 1) cap') s8 (.bool ok8) w8 from ⟨i + 1, hlt, HC8.out, rfl, HX8.out, fun _ => ⟨HOK.out.1, HOK.out.2⟩, by
          rcases HCA.out with ⟨h1, rfl, rfl⟩ | ⟨h1, rfl, rfl⟩
          · exact Or.inl ⟨h1, rfl, rfl⟩
          · exact Or.inr ⟨h1, rfl, rfl⟩⟩)
        clear hcase hbx8 ht8 hf8 HC8 HX8 HCA
        go_wp2_with fail
        exact ⟨HEE.out, by rw [HLN.out]; show M - (i + 1) < M - i; omega⟩
    · obtain rfl : M = i := by omega
      have HQ := Lib.hid (fun v (h : CoS (qP p).p b (wdP p) g w2 (parF p K M F) (Ls 0) M v wr) => show CParC p K M N Ls F w (.returned (.tuple #[v, .int .i64 0])) wr from
        ⟨⟨true, v, rfl, by simp only [true_iff]; have h5 := HEV.out (by omega); exact ⟨HX.out, by rw [h5.1], h5.2⟩, by simp only [cond_true, Int.toNat_natCast]; exact h.told h20 H2.out.size (H2.out.trans (h.same.below hwb hwg H2.out.size))⟩, by
          obtain ⟨A5, c5, rfl, _, _⟩ := h.told h20 H2.out.size (H2.out.trans (h.same.below hwb hwg H2.out.size))
          exact OutCaps.of (h.caps h20)⟩)
      go_wp2_with fail
      go_ret2
      exact HQ.out _ HCS.out
theorem par11 (x0 : Nat) (p k m : Int) (As : Nat → Option Addr) (Ls Cs : Nat → Nat) (F : Nat → Nat → Nat) (hF : ∀ r j, F r j < 256) (A : Option Addr) (N c : Nat) (hN : N ≤ 1000) (hNc : N ≤ c) (hL : ∀ r, r < N → Ls r ≤ 1000) (w : World) (hT : Tab w)
    (hr : Rd x0 w (slis As Ls Cs) A N) (hrs : ∀ r, r < N → Rd x0 w (u8s (F r)) (As r) (Ls r)) :
    Calls Tryz.prog 11 #[.agg (parA p k m), .slice A N c] w (CParSaid p k m N Ls F w) := (par11' x0 p k m As Ls Cs F hF A N c hN hNc hL w hT hr hrs).mono fun _ _ h => h.1
end Go.Proofs.YtgbipbcejjlpiaaGreatDoor
