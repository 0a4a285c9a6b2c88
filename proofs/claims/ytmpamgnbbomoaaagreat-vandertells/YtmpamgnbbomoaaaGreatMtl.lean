/- Contracts of gambrelref04: Mul and Apply. -/
import Derived.Test.YtmpamgnbbomoaaaGreatMtk
namespace Go.Proofs.YtmpamgnbbomoaaaGreat
open Go.RowKit

/-- what Mul of the document tells -/
def RMMulAny (p b n k : Nat) (La Lb : Nat → Nat) (F G : Nat → Nat → Int) (w : World) (e : Ending) (w' : World) : Prop :=
  ∃ t v, e = .returned (.tuple #[v, .bool t]) ∧ (t = true ↔ mayP (M.ord p) n La F ∧ mayP (M.ord p) k Lb G ∧ La 0 = k) ∧ MTold b (cond t n 0) (mulF p F G k) (fun _ => Lb 0) w v w'
theorem RMMulAny.no {p b n k : Nat} {La Lb : Nat → Nat} {F G : Nat → Nat → Int} {w w' : World} (h : ¬ (mayP (M.ord p) n La F ∧ mayP (M.ord p) k Lb G ∧ La 0 = k)) (hb : Below w.heap.size w w') : RMMulAny p b n k La Lb F G w (.returned (.tuple #[nilS, .bool false])) w' :=
  ⟨false, _, rfl, by simp [h], MTold.nil hb⟩
/-- in its loops over the columns, and over the products -/
def RMulCol (p k m i : Nat) (F G : Nat → Nat → Int) (wi : World) (s12 s13 : Value) (wr : World) : Prop := ∃ j : Nat, j ≤ m ∧ s13 = .int .i64 j ∧ App wi TI (i64s (mulF p F G k i)) j s12 wr
def RMulSum (p k i j : Nat) (F G : Nat → Nat → Int) (wj : World) (s14 s15 : Value) (wr : World) : Prop := ∃ x : Nat, x ≤ k ∧ s15 = .int .i64 x ∧ s14 = .int .i64 (dotN p (F i) (fun r => G r j) x) ∧ Below wj.heap.size wj wr

set_option maxRecDepth 100000 in
set_option maxHeartbeats 4000000 in
theorem rmul_go (p b wd : Nat) (hg : Good p wd) (F G : Nat → Nat → Int) (La Lb : Nat → Nat) (A B : Option Addr) (n k ca cb : Nat) (w : World) (hbw : b < w.heap.size) (ha : Mx b w F La A n) (hb : Mx b w G Lb B k)
    (h1 : mayP (M.ord p) n La F) (h2 : mayP (M.ord p) k Lb G) (h3 : La 0 = k) :
    Calls Tryz.prog 26 #[.int .i64 wd, .int .u32 p, .slice A n ca, .slice B k cb] w (RMMulAny p b n k La Lb F G w) := by
  obtain ⟨i0, hi, hz0, hz1, hz2⟩ := info_parts infoRow
  obtain ⟨j0, hj, hy0, hy1, hy2⟩ := info_parts infoI
  have hkd := hg.kind
  have hbd := hg.bounds
  have HA := Lib.hid ha
  have HB := Lib.hid hb
  have H1 := Lib.hid h1
  have H2 := Lib.hid h2
  have H3 := Lib.hid h3
  have hn1 := h1.1.1
  have hn2 := h1.1.2
  have hk1 := h2.1.1
  have hk2 := h2.1.2
  have hm1 := h2.2.1.1
  have hm2 := h2.2.1.2
  obtain ⟨As, Ca, ra, ra2⟩ := ha
  obtain ⟨Bs, Cb, rb, rb2⟩ := hb
  obtain ⟨ad, rfl, hc1⟩ := ra.at_ (show 0 < n by omega)
  obtain ⟨ad', rfl, hc2⟩ := rb.at_ (show 0 < k by omega)
  rw [show ad.add 0 = ad by simp [Addr.add], ] at hc1
  rw [show ad'.add 0 = ad' by simp [Addr.add]] at hc2
  simp only [slis] at hc1 hc2
  rw [h3] at hc1
  have RA := Lib.hid ra
  have RA2 := Lib.hid ra2
  have RB := Lib.hid rb
  have RB2 := Lib.hid rb2
  have hadl := World.block_lt_of_cell? w _ hc1
  have hadl' := World.block_lt_of_cell? w _ hc2
  have HC1 := Lib.hid hc1
  have HC2 := Lib.hid hc2
  obtain ⟨m, hm⟩ : ∃ m, Lb 0 = m := ⟨_, rfl⟩
  have HM := Lib.hid hm
  rw [hm] at hm1 hm2
  clear ra ra2 rb rb2 h1 h2 h3 hc1 hc2
  go_enter Tryz.func26, Tryz.ntmps26
  go_wp2_with fail
  refine (rmay_yes b wd _ hkd F La (some ad) n ca _ HA.out H1.out).mono ?_
  rintro e w0 ⟨rfl, q0, rfl⟩
  have HB0 := Lib.hid (below_drewN' w q0)
  generalize w.drewN q0 = w0 at *
  go_wp2_with fail
  refine (rmay_yes b wd _ hkd G Lb (some ad') k cb _ (HB.out.below HB0.out) H2.out).mono ?_
  rintro e w1 ⟨rfl, q1, rfl⟩
  have HB1 := Lib.hid (below_tr HB0.out (below_drewN' w0 q1))
  generalize w0.drewN q1 = w1 at *
  have hc1 : w1.cell? ad = some (.slice (As 0) k (Ca 0)) := (HB1.out.cell hadl).trans HC1.out
  have hbw1 : b < w1.heap.size := Nat.lt_of_lt_of_le hbw HB1.out.size
  have hn0 : (0 : Int) < (n : Int) := by omega
  have hk0 : (0 : Int) < (k : Int) := by omega
  go_wp2_with fail
  go_loopw [10, 11] (fun s10 s11 wr => ∃ i : Nat, i ≤ n ∧ s11 = .int .i64 i ∧ MApp b w1 (mulF p F G k) (fun _ => m) i s10 wr) (fun _ s11 _ => n - (intOf s11).toNat)
  case atStart => exact ⟨0, Nat.zero_le _, rfl, MApp.start _ _ _ _⟩
  case round =>
    clear hc1
    obtain ⟨i, hin, rfl, happ⟩ := hrel
    obtain ⟨wi, hwi⟩ : ∃ wi, wi = wr := ⟨_, rfl⟩
    subst hwi
    have HAPP := Lib.hid happ
    have hsz := happ.1.size
    have HBI := Lib.hid (below_tr HB1.out happ.1)
    clear happ
    by_cases hlt : i < n
    · go_wp2_with fail
      go_loopw [12, 13] (fun s12 s13 wr => RMulCol p k m i F G wi s12 s13 wr) (fun _ s13 _ => m - (intOf s13).toNat)
      case atStart => exact ⟨0, Nat.zero_le _, rfl, App.start _ _ _⟩
      case round =>
        obtain ⟨j, hjm, rfl, ha⟩ := hrel
        obtain ⟨wj, hwj⟩ : ∃ wj, wj = wr := ⟨_, rfl⟩
        subst hwj
        have HAJ := Lib.hid ha
        have hsz2 := ha.2.size
        have HBJ := Lib.hid (below_tr HBI.out ha.2)
        have hc2 : wj.cell? ad' = some (.slice (Bs 0) m (Cb 0)) := by rw [← HM.out]; exact (HBJ.out.cell hadl').trans HC2.out
        clear ha
        by_cases hlt2 : j < m
        · go_wp2_with fail
          go_loopw [14, 15] (fun s14 s15 wr => RMulSum p k i j F G wj s14 s15 wr) (fun _ s15 _ => k - (intOf s15).toNat)
          case atStart => exact ⟨0, Nat.zero_le _, rfl, rfl, Below.refl _ _⟩
          case round =>
            obtain ⟨x, hxk, rfl, rfl, hbx⟩ := hrel
            have HBX := Lib.hid hbx
            have HBJX := Lib.hid (below_tr HBJ.out hbx)
            clear hbx
            have hs := dotN_le hg (F i) (fun r => G r j) x
            by_cases hlt3 : x < k
            · have hLa : La i = k := (H1.out.2.2 i hlt).1.trans H3.out
              have hLb : Lb x = m := ((H2.out.2.2 x hlt3).1).trans HM.out
              obtain ⟨e1, he1, d1⟩ := (RA.out.below HBJX.out).at_ hlt
              injection he1 with he1
              subst he1
              obtain ⟨e2, he2, d2⟩ := (RB.out.below HBJX.out).at_ hlt3
              injection he2 with he2
              subst he2
              simp only [slis] at d1 d2
              rw [hLa] at d1
              rw [hLb] at d2
              obtain ⟨x1, hA3, d3⟩ := ((RA2.out i hlt).below HBJX.out).at_ (show x < La i by omega)
              obtain ⟨x2, hB3, d4⟩ := ((RB2.out x hlt3).below HBJX.out).at_ (show j < Lb x by omega)
              rw [hA3] at d1
              rw [hB3] at d2
              simp only [i64s] at d3 d4
              have hr := fmulr hg (F i x) (G x j)
              have HS := Lib.hid (show dotN p (F i) (fun r => G r j) (x + 1) = dotN p (F i) (fun r => G r j) x ^^^ (fmul p (F i x) (G x j)).toNat from rfl)
              clear hA3 hB3 hLa hLb
              obtain ⟨u, hu⟩ : ∃ u, F i x = u := ⟨_, rfl⟩
              obtain ⟨v, hv⟩ : ∃ v, G x j = v := ⟨_, rfl⟩
              obtain ⟨s, hss⟩ : ∃ s, dotN p (F i) (fun r => G r j) x = s := ⟨_, rfl⟩
              rw [hu] at d3 HS hr
              rw [hv] at d4 HS hr
              rw [hss] at HS hs ⊢
              have HX := Lib.hid (i64_xor_nat s (fmul p u v).toNat (by omega) (by omega))
              clear hu hv hss
              have i1 : (i : Int) < (n : Int) := by omega
              have i2 : (x : Int) < (k : Int) := by omega
              have i3 : (j : Int) < (m : Int) := by omega
              have hm20 : m ≤ 20 := hm2
              go_wp2_with fail
              go_quiet ((go_at_call 47; exact quiet_same (rmul20 p wd hg u v _)))
              obtain ⟨y, hy⟩ : ∃ y : Nat, fmul p u v = (y : Int) := ⟨(fmul p u v).toNat, by omega⟩
              rw [hy] at HX HS hr ⊢
              rw [Int.toNat_natCast] at HX HS
              clear hy
              go_wp2_with fail
              exact ⟨⟨x + 1, hlt3, by go_num, by rw [HS.out, ← HX.out], below_tr HBX.out (below_drewN' _ _)⟩, by simp [intOf]; omega⟩
            · obtain rfl : x = k := by omega
              have HAQ := Lib.hid (show App wi TI (i64s (mulF p F G x i)) j u12 wr from ⟨own_below HAJ.out.1 HBX.out, below_tr HAJ.out.2 HBX.out⟩)
              have hszq : wi.heap.size ≤ wr.heap.size := HAQ.out.2.size
              go_wp2_with (at_builtin; refine wpList_append_own _ rfl _ _ TIs rfl wi.heap.size TI j0 (.int .i64 0) 1 8 underI hj hy0 hy1 hy2 rfl (by decide) _ _ _ rfl (HAQ.out.1.alloc _) ⟨wr.heap.size, 0, none⟩ 1 1 [i64s (mulF p F G x i) j] rfl rfl (news_one rfl) (one_i64 _) (by unfold maxLen; omega) (by omega) (by simp; omega) ?_)
              intro v' w2 hown' hgrow _
              have HS := Lib.hid (HAQ.out.step hown' hgrow)
              clear hown' hgrow
              go_wp2_with fail
              exact ⟨⟨j + 1, hlt2, by go_num, HS.out⟩, by simp [intOf]; omega⟩
        · obtain rfl : j = m := by omega
          obtain ⟨hb0, As0, Cs0, hown0, hrow0⟩ := HAPP.out.below HAJ.out.2
          have hlo := HAPP.out.2
          obtain ⟨A', c', e', _, _⟩ := HAJ.out.rd (show b < wi.heap.size by omega)
          subst e'
          have HRY := Lib.hid (show ∀ g, (g = b ∨ u10.ownBlock = some g) → Rd g wj (i64s (mulF p F G k i)) A' j from fun g hg' => by
            have hgl : g < wi.heap.size := by
              rcases hg' with rfl | hg'
              · omega
              · obtain ⟨_, _, ho, _⟩ := hlo
                exact (ho.lt g hg').2
            obtain ⟨A2, c2, e2, _, h2⟩ := HAJ.out.rd hgl
            injection e2 with e2
            subst e2
            exact h2)
          have HBB := Lib.hid hb0
          have HOWN := Lib.hid hown0
          have HROW := Lib.hid hrow0
          have hsz3 := hb0.size
          clear hb0 hown0 hrow0 hlo
          go_wp2_with (at_builtin; refine wpList_append_lies _ rfl _ _ TRI rfl w1.heap.size TIs i0 nilS 1 24 underRI hi hz0 hz1 hz2 rfl (by decide) _ i _ rfl (HOWN.out.alloc _) ⟨wj.heap.size, 0, none⟩ 1 1 [.slice A' j c'] rfl rfl (news_one rfl) (one_slice _ _ _) (by omega) (by unfold maxLen; omega) (by omega) (by simp; omega) _ rfl ?_)
          intro g' cap' w2 hown2 hgr2 hg2 _
          have HS := Lib.hid (MApp.step (F := mulF p F G k) (Ls := fun _ => j) HBB.out HOWN.out HROW.out rfl HRY.out hown2 hgr2 hg2)
          clear hown2 hgr2 hg2
          go_wp2_with fail
          exact ⟨⟨i + 1, hlt, by go_num, HS.out⟩, by simp [intOf]; omega⟩
    · obtain rfl : i = n := by omega
      have HE := Lib.hid (show ∀ v, MApp b w1 (mulF p F G k) (fun _ => m) i v wi → RMMulAny p b i k La Lb F G w (.returned (.tuple #[v, .bool true])) wi from fun v h => ⟨true, v, rfl, by simp [H1.out, H2.out, H3.out], by rw [HM.out]; exact (h.told hbw1).from HB1.out⟩)
      go_wp2_with fail
      go_ret2
      exact HE.out _ HAPP.out

set_option maxRecDepth 100000 in
set_option maxHeartbeats 4000000 in
theorem rmmul21 (p b wd : Nat) (hg : Good p wd) (F G : Nat → Nat → Int) (La Lb : Nat → Nat) (A B : Option Addr) (n k ca cb : Nat) (w : World) (hbw : b < w.heap.size) (ha : Mx b w F La A n) (hb : Mx b w G Lb B k) :
    Calls Tryz.prog 26 #[.int .i64 wd, .int .u32 p, .slice A n ca, .slice B k cb] w (RMMulAny p b n k La Lb F G w) := by
  have hkd := hg.kind
  by_cases h1 : mayP (M.ord p) n La F
  · by_cases h2 : mayP (M.ord p) k Lb G
    · by_cases h3 : La 0 = k
      · exact rmul_go p b wd hg F G La Lb A B n k ca cb w hbw ha hb h1 h2 h3
      · have HA := Lib.hid ha
        have HB := Lib.hid hb
        have H1 := Lib.hid h1
        have H2 := Lib.hid h2
        have HE := Lib.hid (fun (w' : World) hw => RMMulAny.no (p := p) (b := b) (n := n) (k := k) (La := La) (Lb := Lb) (F := F) (G := G) (w := w) (w' := w') (fun h => h3 h.2.2) hw)
        have hne : (((La 0 : Nat) : Int) != ((k : Nat) : Int)) = true := by simp; omega
        have hn1 := h1.1.1
        obtain ⟨As, Ca, ra, _⟩ := ha
        obtain ⟨ad, rfl, hc1⟩ := ra.at_ (show 0 < n by omega)
        rw [show ad.add 0 = ad by simp [Addr.add], ] at hc1
        simp only [slis] at hc1
        have hadl := World.block_lt_of_cell? w _ hc1
        have HC1 := Lib.hid hc1
        clear h1 h2 h3 hb ra hc1
        go_enter Tryz.func26, Tryz.ntmps26
        go_wp2_with fail
        refine (rmay_yes b wd _ hkd F La (some ad) n ca _ HA.out H1.out).mono ?_
        rintro e w0 ⟨rfl, q0, rfl⟩
        have HB0 := Lib.hid (below_drewN' w q0)
        generalize w.drewN q0 = w0 at *
        go_wp2_with fail
        refine (rmay_yes b wd _ hkd G Lb B k cb _ (HB.out.below HB0.out) H2.out).mono ?_
        rintro e w1 ⟨rfl, q1, rfl⟩
        have HB1 := Lib.hid (below_tr HB0.out (below_drewN' w0 q1))
        generalize w0.drewN q1 = w1 at *
        have hc1 : w1.cell? ad = some (.slice (As 0) (La 0) (Ca 0)) := (HB1.out.cell hadl).trans HC1.out
        have hn0 : (0 : Int) < (n : Int) := by omega
        go_wp2_with fail
        go_ret2
        exact HE.out _ HB1.out
    · have HA := Lib.hid ha
      have HB := Lib.hid hb
      have H1 := Lib.hid h1
      have H2 := Lib.hid h2
      have HE := Lib.hid (fun (w' : World) hw => RMMulAny.no (p := p) (b := b) (n := n) (k := k) (La := La) (Lb := Lb) (F := F) (G := G) (w := w) (w' := w') (fun h => h2 h.2.1) hw)
      clear h1 h2 ha hb
      go_enter Tryz.func26, Tryz.ntmps26
      go_wp2_with fail
      refine (rmay_yes b wd _ hkd F La A n ca _ HA.out H1.out).mono ?_
      rintro e w0 ⟨rfl, q0, rfl⟩
      have HB0 := Lib.hid (below_drewN' w q0)
      generalize w.drewN q0 = w0 at *
      go_wp2_with fail
      refine (rmay_no b wd _ hkd G Lb B k cb _ (HB.out.below HB0.out) H2.out).mono ?_
      rintro e w1 ⟨rfl, q1, rfl⟩
      have HB1 := Lib.hid (below_tr HB0.out (below_drewN' w0 q1))
      generalize w0.drewN q1 = w1 at *
      go_wp2_with fail
      go_ret2
      exact HE.out _ HB1.out
  · have HA := Lib.hid ha
    have H1 := Lib.hid h1
    have HE := Lib.hid (fun (w' : World) hw => RMMulAny.no (p := p) (b := b) (n := n) (k := k) (La := La) (Lb := Lb) (F := F) (G := G) (w := w) (w' := w') (fun h => h1 h.1) hw)
    clear h1 ha hb
    go_enter Tryz.func26, Tryz.ntmps26
    go_wp2_with fail
    refine (rmay_no b wd _ hkd F La A n ca _ HA.out H1.out).mono ?_
    rintro e w0 ⟨rfl, q0, rfl⟩
    go_wp2_with fail
    go_ret2
    exact HE.out _ (below_drewN' w q0)
end Go.Proofs.YtmpamgnbbomoaaaGreat
