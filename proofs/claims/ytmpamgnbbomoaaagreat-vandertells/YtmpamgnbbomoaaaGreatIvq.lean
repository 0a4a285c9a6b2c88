/- Contracts of gambrelref05: Inverse, Rank and Solve. -/
import Derived.Test.YtmpamgnbbomoaaaGreatIvp
import Derived.Test.YtmpamgnbbomoaaaGreatMtm
namespace Go.Proofs.YtmpamgnbbomoaaaGreat
open Go.RowKit

theorem run_fromIs (a : Option Addr) (len cap k : Nat) (hk : k ≤ len) (w : World) : (Instr.slice TIs (.slice a len cap) (some (.int .i64 k)) none none).run Tryz.prog w = .ok (.slice (if cap = k then a else a.map (·.add k)) (len - k) (cap - k)) w := by
  have hu : Tryz.prog.underlying TIs = some (.slice (Tryz.prog.elem TIs)) := by rw [elemI]; exact Tryz.underlying37
  rw [run_slice_l w TIs a len cap hu .i64 k (by omega) (by omega), elemI, sizeI]
  simp [Result.andThen, sliced]
theorem run_atIs (a : Option Addr) (len cap k : Nat) (hk : k ≤ len) (w : World) : (Instr.sliceAt TIs (.slice a len cap) (some (.int .i64 k)) none none).run Tryz.prog w = .ok (.slice (if cap = k then a else a.map (·.add k)) (len - k) (cap - k)) w := by
  have hu : Tryz.prog.underlying TIs = some (.slice (Tryz.prog.elem TIs)) := by rw [elemI]; exact Tryz.underlying37
  rw [run_sliceAt_slice w TIs _ _ _ _ hu, run_fromIs a len cap k hk]

/-- rows that are appended, one by one, none of them longer than its room -/
def MApC (b : Nat) (w : World) (F : Nat → Nat → Int) (m : Nat) (k : Nat) (v : Value) (wr : World) : Prop :=
  Below w.heap.size w wr ∧ ∃ (As : Nat → Option Addr) (Cs : Nat → Nat), wr.ownsRow w.heap.size TIs 1 v k ((List.range k).map (slis As (fun _ => m) Cs)) ∧ ∀ r, r < k → m ≤ Cs r ∧ ∀ g, (g = b ∨ v.ownBlock = some g) → Rd g wr (i64s (F r)) (As r) m
theorem MApC.start (b : Nat) (w : World) (F : Nat → Nat → Int) (m : Nat) : MApC b w F m 0 nilS w := ⟨Below.refl _ _, fun _ => none, fun _ => 0, World.ownsRow_nil _ _ _ _, fun r hr => absurd hr (by omega)⟩
theorem MApC.below {b : Nat} {w : World} {F : Nat → Nat → Int} {m : Nat} {k : Nat} {v : Value} {wr w' : World} (h : MApC b w F m k v wr) (hb : Below wr.heap.size wr w') : MApC b w F m k v w' := by
  obtain ⟨h1, As, Cs, h2, h3⟩ := h
  exact ⟨below_tr h1 hb, As, Cs, own_below h2 hb, fun r hr => ⟨(h3 r hr).1, fun g hg => ((h3 r hr).2 g hg).below hb⟩⟩
theorem MApC.step {b : Nat} {w : World} {F : Nat → Nat → Int} {m : Nat} {k : Nat} {v : Value} {wr w1 : World} {o : Obj} {As : Nat → Option Addr} {Cs : Nat → Nat} {A' : Option Addr} {c' g' cap : Nat} (h1 : Below w.heap.size w wr) (h2 : wr.ownsRow w.heap.size TIs 1 v k ((List.range k).map (slis As (fun _ => m) Cs)))
    (h3 : ∀ r, r < k → m ≤ Cs r ∧ ∀ g, (g = b ∨ v.ownBlock = some g) → Rd g wr (i64s (F r)) (As r) m) (hr : ∀ g, (g = b ∨ v.ownBlock = some g) → Rd g wr (i64s (F k)) A' m) (hc : m ≤ c')
    (hown : w1.ownsRow w.heap.size TIs 1 (.slice (some ⟨g', 0, none⟩) (k + 1) cap) (k + 1) ((List.range k).map (slis As (fun _ => m) Cs) ++ [.slice A' m c'])) (hgr : (wr.alloc o).grownBy w1 v.ownBlock) (hg : v.ownBlock = some g' ∨ g' = wr.heap.size + 1) :
    MApC b w F m (k + 1) (.slice (some ⟨g', 0, none⟩) (k + 1) cap) w1 := by
  have hg : v.ownBlock = some g' ∨ g' = (wr.alloc o).heap.size := by rw [World.size_alloc]; exact hg
  refine ⟨(h1.alloc h1.size o).grown hgr (by simp; have := h1.size; omega) (fun q hq => (h2.lt q hq).1), fun r => if r = k then A' else As r, fun r => if r = k then c' else Cs r, ?_, fun r hr' => ?_⟩
  · rw [range_snoc]
    have e1 : (List.range k).map (slis (fun r => if r = k then A' else As r) (fun _ => m) (fun r => if r = k then c' else Cs r)) = (List.range k).map (slis As (fun _ => m) Cs) := range_congr (fun j hj => by
      simp only [slis]
      rw [if_neg (by omega), if_neg (by omega)])
    rw [e1]
    simp only [slis, if_pos]
    exact hown
  · by_cases e : r = k
    · subst e
      dsimp only
      rw [if_pos rfl, if_pos rfl]
      exact ⟨hc, fun g hgg => rd_grown hr hgr hg g hgg⟩
    · dsimp only
      rw [if_neg e, if_neg e]
      exact ⟨(h3 r (by omega)).1, fun g hgg => rd_grown (h3 r (by omega)).2 hgr hg g hgg⟩
theorem MApC.rows {b : Nat} {w : World} {F : Nat → Nat → Int} {m : Nat} {k : Nat} {v : Value} {wr : World} (h : MApC b w F m k v wr) (hb : b < w.heap.size) : ∃ A c As Cs, v = .slice A k c ∧ k ≤ c ∧ Rd b wr (slis As (fun _ => m) Cs) A k ∧ ∀ r, r < k → m ≤ Cs r ∧ Rd b wr (i64s (F r)) (As r) m := by
  obtain ⟨h1, As, Cs, h2, h3⟩ := h
  obtain ⟨A, c, e, hc, hrd⟩ := Rd.of_own h2 hb
  exact ⟨A, c, As, Cs, e, hc, hrd, fun r hr => ⟨(h3 r hr).1, (h3 r hr).2 b (Or.inl rfl)⟩⟩

/-- what Rank of the document tells -/
def RRankAny (q : FP) (n : Nat) (La : Nat → Nat) (F : Nat → Nat → Int) (w : World) (e : Ending) (w' : World) : Prop :=
  ∃ s, e = .returned (.tuple #[.int .i64 (cond s (rk n (elM q F) (La 0)) 0 : Nat), .int .i64 (errOf s)]) ∧ (s = true ↔ mayP (M.ord q.p) n La F) ∧ Below w.heap.size w w'

/-- what Inverse of the document tells -/
def RInvAny (q : FP) (b n : Nat) (La : Nat → Nat) (F : Nat → Nat → Int) (w : World) (e : Ending) (w' : World) : Prop :=
  ∃ s t v, e = .returned (.tuple #[v, .int .i64 (err2 s t)]) ∧ (s = true ↔ sqP (M.ord q.p) n La F) ∧ (s = true → (t = true ↔ rk n (elM q F) n = n)) ∧ MTold b (cond (s && t) n 0) (ivs (ivm n (elM q F))) (fun _ => n) w v w'
theorem RInvAny.no {q : FP} {b n : Nat} {La : Nat → Nat} {F : Nat → Nat → Int} {w w' : World} (h : ¬ sqP (M.ord q.p) n La F) (hb : Below w.heap.size w w') : RInvAny q b n La F w (.returned (.tuple #[nilS, .int .i64 1])) w' :=
  ⟨false, false, _, rfl, by simp [h], (fun h => by cases h), MTold.nil hb⟩
theorem aug_list {q : FP} (n : Nat) (X Y : Nat → Nat → El q) (i m : Nat) : (List.range n).map (i64s (ivs X i)) ++ (List.range m).map (i64s (ivs Y i)) = (List.range (n + m)).map (i64s (ivs (aug n X Y) i)) := by
  rw [← joinV_all n m]
  refine range_congr (fun j _ => ?_)
  unfold joinV
  by_cases e : j < n
  · rw [if_pos e]
    simp only [i64s, ivs, aug, if_pos e]
  · rw [if_neg e]
    simp only [i64s, ivs, aug, if_neg e]

set_option maxRecDepth 100000 in
set_option maxHeartbeats 8000000 in
theorem rinverse13 (q : FP) (b wd n : Nat) (hg : Good q.p wd) (La : Nat → Nat) (F : Nat → Nat → Int) (A : Option Addr) (cap : Nat) (w : World) (hbw : b < w.heap.size) (hr : Mx b w F La A n) :
    Calls Tryz.prog 25 #[.int .i64 wd, .int .u32 q.p, .slice A n cap] w (RInvAny q b n La F w) := by
  obtain ⟨i0, hi, hz0, hz1, hz2⟩ := info_parts infoRow
  obtain ⟨j0, hj, hy0, hy1, hy2⟩ := info_parts infoI
  have HM := Lib.hid hr
  have hkd := hg.kind
  clear hr
  go_enter Tryz.func25, Tryz.ntmps25
  go_wp2_with fail
  refine (rmay17 b wd (M.ord q.p) hkd F La A n cap _ HM.out).mono ?_
  rintro e w1 ⟨t, rfl, ht, q1, rfl⟩
  have HB1 := Lib.hid (below_drewN' w q1)
  generalize w.drewN q1 = w1 at *
  cases t
  · have HE := Lib.hid (RInvAny.no (q := q) (b := b) (n := n) (La := La) (F := F) (w := w) (w' := w1) (fun h => by have := ht.2 h.1; cases this) HB1.out)
    clear ht
    go_wp2_with fail
    go_ret2
    exact HE.out
  have hm := ht.1 rfl
  have hn1 := hm.1.1
  have hn2 := hm.1.2
  have hl2 := hm.2.1.2
  have HMM := Lib.hid hm
  obtain ⟨As, Cs, r1, r2⟩ := (HM.out.below HB1.out).rows hm
  obtain ⟨ad, rfl, c1⟩ := r1.at_ (show 0 < n by omega)
  rw [show ad.add 0 = ad by simp [Addr.add]] at c1
  simp only [slis] at c1
  have hn0 : (0 : Int) < (n : Int) := by omega
  have hbw1 : b < w1.heap.size := Nat.lt_of_lt_of_le hbw HB1.out.size
  clear ht hm
  by_cases hsq : n = La 0
  case neg =>
    have hne : (((n : Nat) : Int) != ((La 0 : Nat) : Int)) = true := by simp; omega
    have HE := Lib.hid (RInvAny.no (q := q) (b := b) (n := n) (La := La) (F := F) (w := w) (w' := w1) (fun h => hsq h.2) HB1.out)
    clear hsq r1 r2
    go_wp2_with fail
    go_ret2
    exact HE.out
  have hne : (((n : Nat) : Int) != ((La 0 : Nat) : Int)) = false := by simp; omega
  have HSQ := Lib.hid (show sqP (M.ord q.p) n La F from ⟨HMM.out, hsq⟩)
  rw [← hsq] at r1 r2
  have HR1 := Lib.hid r1
  have HR2 := Lib.hid r2
  obtain ⟨X, hX⟩ : ∃ X, elM q F = X := ⟨_, rfl⟩
  rw [hX] at HR2
  have HX := Lib.hid hX
  clear r1 r2 hsq hX HMM
  go_wp2_with fail
  refine (ridentity26 b n hn2 _ hbw1).mono ?_
  rintro e w2 ⟨v, rfl, AI, cI, rfl, _, hmI, hb2⟩
  obtain ⟨Is, Ci, i1, i2⟩ := hmI
  have HI1 := Lib.hid i1
  have HI2 := Lib.hid (show ∀ r, r < n → Rd b w2 (i64s (ivs (dl (q := q)) r)) (Is r) n from fun r hr => (i2 r hr).congr (fun j _ => by simp only [i64s]; rw [idF_el (q := q)]))
  have HB2 := Lib.hid hb2
  have HBW2 := Lib.hid (below_tr HB1.out hb2)
  have hbw2 : b < w2.heap.size := Nat.lt_of_lt_of_le hbw1 hb2.size
  clear i1 i2 hb2 c1
  go_wp2_with fail
  go_loopw [10, 11] (fun s10 s11 wr => ∃ i : Nat, i ≤ n ∧ s11 = .int .i64 i ∧ MApC b w2 (ivs (aug n X dl)) (n + n) i s10 wr) (fun _ s11 _ => n - (intOf s11).toNat)
  case atStart => exact ⟨0, Nat.zero_le _, rfl, MApC.start _ _ _ _⟩
  case round =>
    obtain ⟨i, hin, rfl, happ⟩ := hrel
    have HAPP := Lib.hid happ
    have hsz := happ.1.size
    have HBI := Lib.hid happ.1
    clear happ
    by_cases hlt : i < n
    · obtain ⟨wi, hwi⟩ : ∃ wi, wi = wr := ⟨_, rfl⟩
      subst hwi
      obtain ⟨e1, he1, d1⟩ := (HR1.out.below (below_tr HB2.out HBI.out)).at_ hlt
      injection he1 with he1
      subst he1
      obtain ⟨a1, ha1, _⟩ := (HR2.out i hlt).at_ (show 0 < n by omega)
      simp only [slis] at d1
      rw [ha1] at d1
      have HS1 := Lib.hid (show Rd b (wi.alloc (.cells #[] TI)) (i64s (ivs X i)) (some a1) n from by
        have := ((HR2.out i hlt).below (below_tr HB2.out HBI.out)).below (below_alloc wi (.cells #[] TI))
        rwa [ha1] at this)
      have HO1 := Lib.hid (own_fresh0 wi wi.heap.size TI wi.heap.size rfl (Nat.le_refl _))
      have d1' := (below_alloc wi (.cells #[] TI)).cell (lt_of_cell d1)
      rw [d1] at d1'
      have hiI : ((i : Nat) : Int) < ((n : Nat) : Int) := by omega
      go_wp2_with (at_builtin; refine append_rd _ rfl _ _ TIs rfl wi.heap.size TI j0 (.int .i64 0) 8 underI hj hy0 hy1 hy2 rfl _ 0 _ rfl HO1.out b (i64s (ivs X i)) (some a1) n (Cs i) rfl (fun h => by cases h) HS1.out (fun _ => rfl) (by unfold maxLen; omega) (by omega) (by simp) ?_)
      intro v3 w3 hown3 hgr3
      have hb3 := below_grown (below_alloc wi (.cells #[] TI)) HO1.out hgr3
      have HO3 := Lib.hid hown3
      have HB3 := Lib.hid hb3
      clear hown3 hgr3 hb3 HS1 HO1 d1 d1' ha1
      obtain ⟨e2, rfl, d2⟩ := (HI1.out.below (below_tr HBI.out HB3.out)).at_ hlt
      obtain ⟨a2, ha2, _⟩ := (HI2.out i hlt).at_ (show 0 < n by omega)
      simp only [slis] at d2
      rw [ha2] at d2
      have HS2 := Lib.hid (show Rd b w3 (i64s (ivs (dl (q := q)) i)) (some a2) n from by
        have := (HI2.out i hlt).below (below_tr HBI.out HB3.out)
        rwa [ha2] at this)
      have hs3 := HB3.out.size
      go_wp2_with (at_builtin; refine append_rd _ rfl _ _ TIs rfl wi.heap.size TI j0 (.int .i64 0) 8 underI hj hy0 hy1 hy2 rfl _ n _ rfl HO3.out b (i64s (ivs (dl (q := q)) i)) (some a2) n (Ci i) rfl (fun h => by cases h) HS2.out (fun _ => rfl) (by unfold maxLen; omega) (by omega) hs3 ?_)
      intro v4 w4 hown4 hgr4
      rw [aug_list] at hown4
      have hA4 : App wi TI (i64s (ivs (aug n X dl) i)) (n + n) v4 w4 := ⟨hown4, below_grown HB3.out HO3.out hgr4⟩
      obtain ⟨A', c', rfl, hc', _⟩ := hA4.rd (show b < wi.heap.size by omega)
      obtain ⟨hb0, As0, Cs0, hown0, hrow0⟩ := HAPP.out.below hA4.2
      have hlo := HAPP.out.2
      have HRY := Lib.hid (show ∀ g, (g = b ∨ u10.ownBlock = some g) → Rd g w4 (i64s (ivs (aug n X dl) i)) A' (n + n) from fun g hgg => by
        have hgl : g < wi.heap.size := by
          rcases hgg with rfl | hgg
          · omega
          · obtain ⟨_, _, ho, _⟩ := hlo
            exact (ho.lt g hgg).2
        obtain ⟨A5, c5, e5, _, h5⟩ := hA4.rd hgl
        injection e5 with e5
        subst e5
        exact h5)
      have hs4 := hA4.2.size
      have HB0 := Lib.hid hb0
      have HOWN := Lib.hid hown0
      have HROW := Lib.hid hrow0
      clear hb0 hown0 hrow0 hlo hown4 hgr4 hA4 HS2 HO3 HB3 d2 ha2
      go_wp2_with (at_builtin; refine wpList_append_lies _ rfl _ _ TRI rfl w2.heap.size TIs i0 nilS 1 24 underRI hi hz0 hz1 hz2 rfl (by decide) _ i _ rfl (HOWN.out.alloc _) ⟨w4.heap.size, 0, none⟩ 1 1 [.slice A' (n + n) c'] rfl rfl (news_one rfl) (one_slice _ _ _) (by omega) (by unfold maxLen; omega) (by omega) (by simp; omega) _ rfl ?_)
      intro g' cap' w5 hown5 hgr5 hg5 _
      have HS := Lib.hid (MApC.step (F := ivs (aug n X dl)) HB0.out HOWN.out HROW.out HRY.out hc' hown5 hgr5 (by simpa using hg5))
      clear hown5 hgr5 hg5
      go_wp2_with fail
      exact ⟨⟨i + 1, hlt, by go_num, HS.out⟩, by simp [intOf]; omega⟩
    · obtain rfl : i = n := by omega
      obtain ⟨AW, cW, Ws, Cw, e, _, r1, r2⟩ := HAPP.out.rows hbw2
      subst e
      have R1 := Lib.hid r1
      have R2 := Lib.hid r2
      have hbwr : b < wr.heap.size := by omega
      clear r1 r2 HAPP
      go_wp2_with fail
      refine (reduced31 q b wd i (i + i) i hg (aug i X dl) AW cW hn1 hn2 (by omega) (by omega) _ hbwr Ws Cw R1.out (fun r hr => (R2.out r hr).2) True (fun _ r hr => (R2.out r hr).1)).mono ?_
      rintro e w3 ⟨A3, c3, rfl, _, ⟨Rs, Cr, s1, s2⟩, hb3⟩
      have hrk : (red i (aug i X dl) i).2 = rk i X i := rk_aug i X dl
      have hle := (rk_le i X i).1
      rw [hrk]
      have HB3 := Lib.hid (below_tr HBW2.out (below_tr HBI.out hb3))
      have hbw3 : b < w3.heap.size := Nat.lt_of_lt_of_le hbwr hb3.size
      have S1 := Lib.hid s1
      have S2 := Lib.hid s2
      clear hrk hb3 s1 s2 R1 R2
      by_cases hfull : rk i X i < i
      · have HE := Lib.hid (show RInvAny q b i La F w (.returned (.tuple #[nilS, .int .i64 2])) w3 from ⟨true, false, _, rfl, by simp [HSQ.out], fun _ => by rw [HX.out]; simp; omega, MTold.nil HB3.out⟩)
        go_wp2_with fail
        go_ret2
        exact HE.out
      have hfl : rk i X i = i := by omega
      have HFU := Lib.hid hfl
      rw [hfl]
      clear hfl hfull hle
      go_wp2_with fail
      go_loopw [15, 16] (fun s15 s16 wr => ∃ k : Nat, k ≤ i ∧ s16 = .int .i64 k ∧ MApp b w3 (ivs (ivm i X)) (fun _ => i) k s15 wr) (fun _ s16 _ => i - (intOf s16).toNat)
      case atStart => exact ⟨0, Nat.zero_le _, rfl, MApp.start _ _ _ _⟩
      case round =>
        obtain ⟨k, hk, rfl, happ⟩ := hrel
        have HAPP := Lib.hid happ
        have hszk := happ.1.size
        clear happ
        by_cases hlt2 : k < i
        · obtain ⟨e3, rfl, d1⟩ := (S1.out.below HAPP.out.1).at_ hlt2
          simp only [slis] at d1
          obtain ⟨a3, ha3, _⟩ := (S2.out k hlt2).1.at_ (show 0 < i + i by omega)
          have hck := (S2.out k hlt2).2 trivial
          have hcut := (S2.out k hlt2).1.cut (i := i) (cap := Cr k) (by omega) hck
          rw [if_neg (by omega), ha3, show i + i - i = i by omega] at hcut
          rw [ha3] at d1
          have hsl := run_fromIs (some a3) (i + i) (Cr k) i (by omega)
          have hsl2 := run_atIs (some a3) (i + i) (Cr k) i (by omega)
          rw [if_neg (show ¬ Cr k = i by omega), show i + i - i = i by omega] at hsl hsl2
          simp only [Option.map] at hsl hsl2 hcut
          obtain ⟨hb0, As0, Cs0, hown0, hrow0⟩ := HAPP.out
          have hlo := hown0.lt
          have HRY := Lib.hid (show ∀ g, (g = b ∨ u15.ownBlock = some g) → Rd g wr (i64s (ivs (ivm i X) k)) (some (a3.add i)) i from fun g hgg => by
            rcases hgg with rfl | hgg
            · exact hcut.below hb0
            · exact (hcut.other (hlo g hgg).1).below hb0)
          have HB0 := Lib.hid hb0
          have HOWN := Lib.hid hown0
          have HROW := Lib.hid hrow0
          have hkI : ((k : Nat) : Int) < ((i : Nat) : Int) := by omega
          clear hb0 hown0 hrow0 hlo hcut ha3
          go_wp2_with (at_builtin; refine wpList_append_lies _ rfl _ _ TRI rfl w3.heap.size TIs i0 nilS 1 24 underRI hi hz0 hz1 hz2 rfl (by decide) _ k _ rfl (HOWN.out.alloc _) ⟨wr.heap.size, 0, none⟩ 1 1 [.slice (some (a3.add i)) i (Cr k - i)] rfl rfl (news_one rfl) (one_slice _ _ _) (by omega) (by unfold maxLen; omega) (by omega) (by simp; omega) _ rfl ?_)
          intro g' cap' w5 hown5 hgr5 hg5 _
          have HS := Lib.hid (MApp.step (F := ivs (ivm i X)) (Ls := fun _ => i) HB0.out HOWN.out HROW.out rfl HRY.out hown5 hgr5 (by simpa using hg5))
          clear hown5 hgr5 hg5
          go_wp2_with fail
          exact ⟨⟨k + 1, hlt2, by go_num, HS.out⟩, by simp [intOf]; omega⟩
        · obtain rfl : k = i := by omega
          have HE := Lib.hid (show ∀ v, MApp b w3 (ivs (ivm k X)) (fun _ => k) k v wr → RInvAny q b k La F w (.returned (.tuple #[v, .int .i64 0])) wr from fun v h => ⟨true, true, v, rfl, by simp [HSQ.out], fun _ => by rw [HX.out]; simp [HFU.out], by rw [HX.out]; exact (h.told hbw3).from HB3.out⟩)
          go_wp2_with fail
          go_ret2
          exact HE.out _ HAPP.out

/-- what Solve of the document tells -/
def RSolAny (q : FP) (b n : Nat) (La : Nat → Nat) (F : Nat → Nat → Int) (m : Nat) (l : Nat → Int) (w : World) (e : Ending) (w' : World) : Prop :=
  ∃ s t v, e = .returned (.tuple #[v, .int .i64 (err2 s t)]) ∧ (s = true ↔ solP (M.ord q.p) n La F m l) ∧ (s = true → (t = true ↔ rk n (elM q F) n = n)) ∧ IntsTold b (cond (s && t) n 0) (fun r => ((mm n (ivm n (elM q F)) (colM q l) r 0).val : Int)) w v w'
theorem RSolAny.no {q : FP} {b n : Nat} {La : Nat → Nat} {F : Nat → Nat → Int} {m : Nat} {l : Nat → Int} {w w' : World} (h : ¬ solP (M.ord q.p) n La F m l) (hb : Below w.heap.size w w') : RSolAny q b n La F m l w (.returned (.tuple #[nilS, .int .i64 1])) w' :=
  ⟨false, false, _, rfl, by simp [h], (fun h => by cases h), none, 0, rfl, Nat.le_refl _, Rd.zero, hb⟩
end Go.Proofs.YtmpamgnbbomoaaaGreat
