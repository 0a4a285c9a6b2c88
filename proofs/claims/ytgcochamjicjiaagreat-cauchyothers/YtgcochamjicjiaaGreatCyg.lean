/- The contract of package cauchy's Safe. -/
import Derived.Test.YtgcochamjicjiaaGreatCyf
import Derived.Deep.Cut
import Derived.Deep.CutRange
namespace Go.Proofs.YtgcochamjicjiaaGreat
open Go.RowKit Go.Shelf
attribute [local go_sem] Oper.semAt_some

/-- two results that lie in cells of their own -/
theorem results_cells2 {fn : Func} {p u : Tmp} {t1 t2 : TypeId} (h : fn.results = #[.cell p t1, .cell u t2]) (tmps : Array Value) (P : Program) (w : World) {a1 a2 : Addr} {v1 v2 : Value} (e1 : tmps.getD p undef = .pointer (some a1)) (e2 : tmps.getD u undef = .pointer (some a2))
    (i1 : ∀ w, (isAgg t1).run P w = .ok false w) (i2 : ∀ w, (isAgg t2).run P w = .ok false w) (c1 : w.cell? a1 = some v1) (c2 : w.cell? a2 = some v2) : (results fn tmps).run P w = .ok (.tuple #[v1, v2]) w := by
  have e1' : tmps[p]?.getD undef = .pointer (some a1) := by simpa using e1
  have e2' : tmps[u]?.getD undef = .pointer (some a2) := by simpa using e2
  have l1 : (load a1).run P w = .ok v1 w := by simp [run_load, c1]
  have l2 : (load a2).run P w = .ok v2 w := by simp [run_load, c2]
  simp [results, h, e1', e2', asAddr, loadVar, Sem.run_bind, i1, i2, Result.andThen, l1, l2]

abbrev TBl : Nat := 4
abbrev TEr : Nat := 29
theorem aggBl (w : World) : (isAgg TBl).run Tryz.prog w = .ok false w := by kernel_rfl
theorem aggEr (w : World) : (isAgg TEr).run Tryz.prog w = .ok false w := by kernel_rfl

/-- what Safe asks -/
def safeP (c m : Nat) (Ls : Nat → Nat) (F : Nat → Nat → Int) : Prop := mayP c m Ls F ∧ m ≤ 5 ∧ Ls 0 ≤ 8
/-- what Safe tells -/
def SafeSaid (q : FP) (b wd m : Nat) (Ls : Nat → Nat) (F : Nat → Nat → Int) (w : World) (e : Ending) (w' : World) : Prop :=
  ∃ s t, e = .returned (.tuple #[.bool t, .int .i64 (errOf s)]) ∧ (s = true ↔ safeP (M.ord q.p) m Ls F) ∧ (t = true ↔ s = true ∧ SafeP q (Ls 0) m (elM q F)) ∧ Fld q.p b wd w' ∧ Turned b w w'

/-- the world when Safe begins: the field's box and both results' -/
def safeW (b : Nat) (w : World) : World := ((w.alloc (.cells #[.pointer (some ⟨b, 0, none⟩)] 25)).alloc (.cells #[.bool false] TBl)).alloc (.cells #[.int .i64 0] TEr)
theorem safeW_below (b : Nat) (w : World) : Below w.heap.size w (safeW b w) := (((Below.refl _ w).alloc (Nat.le_refl _) _).alloc (by simp) _).alloc (by simp; omega) _
theorem safeW_size (b : Nat) (w : World) : (safeW b w).heap.size = w.heap.size + 3 := by simp [safeW]
theorem safeW_f (b : Nat) (w : World) : (safeW b w).rowIs w.heap.size 25 1 (fun _ => .pointer (some ⟨b, 0, none⟩)) := ((World.rowIs_alloc w #[.pointer (some ⟨b, 0, none⟩)] _ (fun _ => .pointer (some ⟨b, 0, none⟩)) (fun i hi => by simp at hi; subst hi; rfl)).alloc _).alloc _
theorem safeW_r (b : Nat) (w : World) : (safeW b w).rowIs (w.heap.size + 1) TBl 1 (fun _ => .bool false) := by
  have h := (World.rowIs_alloc (w.alloc (.cells #[.pointer (some ⟨b, 0, none⟩)] 25)) #[.bool false] TBl (fun _ => .bool false) (fun i hi => by simp at hi; subst hi; rfl)).alloc (.cells #[.int .i64 0] TEr)
  rwa [World.size_alloc] at h
theorem safeW_e (b : Nat) (w : World) : (safeW b w).rowIs (w.heap.size + 2) TEr 1 (fun _ => .int .i64 0) := by
  have h := World.rowIs_alloc ((w.alloc (.cells #[.pointer (some ⟨b, 0, none⟩)] 25)).alloc (.cells #[.bool false] TBl)) #[.int .i64 0] TEr (fun _ => .int .i64 0) (fun i hi => by simp at hi; subst hi; rfl)
  rwa [World.size_alloc, World.size_alloc] at h

set_option maxRecDepth 100000 in
set_option maxHeartbeats 4000000 in
theorem safe_no (q : FP) (b wd m : Nat) (Ls : Nat → Nat) (F : Nat → Nat → Int) (A : Option Addr) (cap : Nat) (w : World) (hf : Fld q.p b wd w) (hm : Mx b w F Ls A m) (hno : ¬ safeP (M.ord q.p) m Ls F) :
    Calls Tryz.prog 8 #[.pointer (some ⟨b, 0, none⟩), .slice A m cap] w (SafeSaid q b wd m Ls F w) := by
  have hkd := hf.1.kind
  obtain ⟨w2, hw2⟩ : ∃ w2, safeW b w = w2 := ⟨_, rfl⟩
  have hbe := safeW_below b w
  have r1 := safeW_f b w
  have r2 := safeW_r b w
  have r3 := safeW_e b w
  rw [hw2] at hbe r1 r2 r3
  have HW := Lib.hid hw2
  have HB := Lib.hid hbe
  have c1 := r1.cell (i := 0) (by omega)
  have c2 := r2.cell (i := 0) (by omega)
  have c3 := r3.cell (i := 0) (by omega)
  have f2 := r2.frozen 0
  have f3 := r3.frozen 0
  have HM := Lib.hid (may16 b wd _ hkd F Ls A m cap w2 (hf.of_below hbe).c0 (hm.below hbe))
  obtain ⟨w4, hw4⟩ : ∃ w4, (w2.setCell ⟨w.heap.size + 1, 0, none⟩ (.bool false)).setCell ⟨w.heap.size + 2, 0, none⟩ (.int .i64 1) = w4 := ⟨_, rfl⟩
  have HE := Lib.hid (show SafeSaid q b wd m Ls F w (.returned (.tuple #[.bool false, .int .i64 1])) w4 from ⟨false, false, rfl, by simp [hno], by simp, by
    rw [← hw4]
    exact ((hf.of_below hbe).setRow r2 (by decide) (by decide) _).setRow (r3.setOther (a := ⟨w.heap.size + 1, 0, none⟩) (by simp) _) (by decide) (by decide) _, by
    rw [← hw4]
    exact ((Turned.of_below hbe).set_new (by omega) _).set_new (by omega) _⟩)
  have d2 : w4.cell? ⟨w.heap.size + 1, 0, none⟩ = some (.bool false) := by
    rw [← hw4, World.cell?_setCell_other _ _ _ _ (by simp), World.cell?_setCell_same _ _ _ c2]
  have d3 : w4.cell? ⟨w.heap.size + 2, 0, none⟩ = some (.int .i64 1) := by
    rw [← hw4]
    exact World.cell?_setCell_same _ _ _ (by rw [World.cell?_setCell_other _ _ _ _ (by simp)]; exact c3)
  have hA : mayP (M.ord q.p) m Ls F → ∃ ad A0 C0, A = some ad ∧ w2.cell? ad = some (.slice A0 (Ls 0) C0) := fun hmay => by
    obtain ⟨As, Cs, ha, _⟩ := hm.below hbe
    obtain ⟨ad, rfl, hc⟩ := ha.at_ (show 0 < m by have := hmay.1.1; omega)
    rw [show ad.add 0 = ad by simp [Addr.add]] at hc
    exact ⟨ad, _, _, rfl, hc⟩
  have HA := Lib.hid hA
  have HN := Lib.hid hno
  unfold safeW at hw2
  clear r1 r2 r3 hbe hm hf hA hno
  go_enter Tryz.func8, Tryz.ntmps8
  go_wp2_with fail
  refine HM.out.mono ?_
  rintro e w' ⟨t, rfl, ht, rfl⟩
  cases t
  · clear ht
    go_wp2_with fail
    refine bodyPost_ret (results_cells2 rfl _ _ _ rfl rfl aggBl aggEr d2 d3) rfl ?_
    exact HE.out
  have hmay := ht.1 rfl
  obtain ⟨ad, A0, C0, rfl, hc0⟩ := HA.out hmay
  have hm1 := hmay.1.1
  have hm2 := hmay.1.2
  have hl2 := hmay.2.1.2
  have HMAY := Lib.hid hmay
  have hm0 : (0 : Int) < (m : Int) := by omega
  clear ht hmay
  by_cases h5 : m ≤ 5
  · by_cases h8 : Ls 0 ≤ 8
    · exact absurd (show safeP (M.ord q.p) m Ls F from ⟨HMAY.out, h5, h8⟩) HN.out
    · have e1 : decide ((5 : Int) < (m : Int)) = false := by simp; omega
      have e2 : decide ((8 : Int) < ((Ls 0 : Nat) : Int)) = true := by simp; omega
      go_wp2_with fail
      refine bodyPost_ret (results_cells2 rfl _ _ _ rfl rfl aggBl aggEr d2 d3) rfl ?_
      exact HE.out
  · have e1 : decide ((5 : Int) < (m : Int)) = true := by simp; omega
    go_wp2_with fail
    refine bodyPost_ret (results_cells2 rfl _ _ _ rfl rfl aggBl aggEr d2 d3) rfl ?_
    exact HE.out

/-- the identity, and p's rows behind it, are there -/
def WholeAt (b k m : Nat) (F : Nat → Nat → Int) (w2 : World) (s7 s8 : Value) (wr : World) : Prop :=
  ∃ bw A c, s7 = .pointer (some ⟨bw, 0, none⟩) ∧ s8 = .int .i64 0 ∧ w2.heap.size ≤ bw ∧ wr.cell? ⟨bw, 0, none⟩ = some (.slice A (k + m) c) ∧ Mx b wr (joinF k idF F) (fun _ => k) A (k + m) ∧ Below w2.heap.size w2 wr

theorem Rd.fresh {b : Nat} {W : World} {K : Nat → Value} {A : Option Addr} {n : Nat} (h : Rd b W K A n) : Rd W.heap.size W K A n := fun hn => by
  obtain ⟨ad, h1, _, h3, h4⟩ := h hn
  exact ⟨ad, h1, by omega, h3, h4⟩
theorem Mx.fresh {b : Nat} {W : World} {F : Nat → Nat → Int} {Ls : Nat → Nat} {A : Option Addr} {n : Nat} (h : Mx b W F Ls A n) : Mx W.heap.size W F Ls A n := by
  obtain ⟨As, Cs, h1, h2⟩ := h
  exact ⟨As, Cs, h1.fresh, fun r hr => (h2 r hr).fresh⟩
/-- rows that lie apart from a block that turns -/
theorem mx_turn {b g : Nat} {W W' : World} {F : Nat → Nat → Int} {Ls : Nat → Nat} {A : Option Addr} {n : Nat} (hg : Mx g W F Ls A n) (hb : Mx b W F Ls A n) (ht : Turned g W W') : Mx b W' F Ls A n := by
  obtain ⟨As, Cs, h1, h2⟩ := hg
  obtain ⟨Bs, Ds, k1, k2⟩ := hb
  have he : ∀ r, r < n → slis As Ls Cs r = slis Bs Ls Ds r := fun r hr => by
    obtain ⟨ad, e1, c1⟩ := h1.at_ hr
    obtain ⟨ad', e2, c2⟩ := k1.at_ hr
    rw [e1] at e2
    injection e2 with e2
    subst e2
    rw [c1] at c2
    injection c2
  refine ⟨Bs, Ds, rd_turn (h1.congr he) k1 ht, fun r hr => rd_turn ?_ (k2 r hr) ht⟩
  have := he r hr
  simp only [slis] at this
  injection this with e
  rw [← e]
  exact h2 r hr
theorem whole_done {b k m bw : Nat} {F : Nat → Nat → Int} {w2 w5 : World} {A : Option Addr} {c : Nat} (hr : w5.rowIs bw TM 1 (fun _ => nilS)) (hbw : w2.heap.size ≤ bw) (h1 : Mx bw w5 (joinF k idF F) (fun _ => k) A (k + m)) (h2 : Mx b w5 (joinF k idF F) (fun _ => k) A (k + m)) (hb : Below w2.heap.size w2 w5) :
    WholeAt b k m F w2 (.pointer (some ⟨bw, 0, none⟩)) (.int .i64 0) (w5.setCell ⟨bw, 0, none⟩ (.slice A (k + m) c)) :=
  ⟨bw, A, c, rfl, rfl, hbw, World.cell?_setCell_same _ _ _ (hr.cell (i := 0) (by omega)), mx_turn h1 h2 ((Turned.refl bw w5).setCell 0 _), hb.setCell (p := ⟨bw, 0, none⟩) hbw _⟩
theorem box_new (W : World) : (W.alloc (.cells #[nilS] TM)).rowIs W.heap.size TM 1 (fun _ => nilS) := World.rowIs_alloc W #[nilS] TM (fun _ => nilS) (fun i hi => by simp at hi; subst hi; rfl)

/-- the identity's rows and p's, as numbers of the field -/
theorem join_el {q : FP} {k : Nat} (F : Nat → Nat → Int) (r j : Nat) : elM q (joinF k idF F) r j = joinE k dl (elM q F) r j := by
  unfold elM joinF joinE
  by_cases e : r < k
  · rw [if_pos e, if_pos e, idF_el (q := q)]
    exact toEl_of _
  · rw [if_neg e, if_neg e]
theorem good_join {q : FP} {k : Nat} (F : Nat → Nat → Int) (l : Nat → Nat) : rk k (elM q (fun r => joinF k idF F (l r))) k = k ↔ GoodCh q k (elM q F) l := by
  unfold GoodCh
  rw [rk_congr (G := elM q (fun r => joinF k idF F (l r))) (F := fun i j => joinE k dl (elM q F) (l i) j) (fun r _ j _ => join_el F (l r) j)]
/-- while the choices go on -/
def SafI (q : FP) (b wd : Nat) (w6 W : World) : Prop := Fld q.p b wd W ∧ Turned b w6 W
theorem SafI.soft {q : FP} {b wd : Nat} {w6 X Y : World} (h : SafI q b wd w6 X) (hb : Soft w6.heap.size X Y) : SafI q b wd w6 Y := ⟨hb.fld h.1, hb.turned h.2 (Nat.le_refl _)⟩
theorem SafI.told {q : FP} {b wd bc br k N : Nat} {w6 W : World} (h : SafI q b wd w6 W) (h1 : w6.cell? ⟨br, 0, none⟩ = some (.int .i64 (N : Int))) (h2 : w6.cell? ⟨bc, 0, none⟩ = some (.int .i64 (k : Int))) (hb : b ≠ br ∧ b ≠ bc) : ChT bc br k N W :=
  ⟨(h.2.cell (q := ⟨bc, 0, none⟩) (lt_of_cell h2) (fun e => hb.2 e.symm)).trans h2, (h.2.cell (q := ⟨br, 0, none⟩) (lt_of_cell h1) (fun e => hb.1 e.symm)).trans h1⟩
/-- a choice has been found that has no inverse -/
def SafX (q : FP) (b wd k m : Nat) (F : Nat → Nat → Int) (w W : World) : Prop :=
  Fld q.p b wd W ∧ Turned b w W ∧ W.cell? ⟨w.heap.size + 1, 0, none⟩ = some (.bool false) ∧ W.cell? ⟨w.heap.size + 1 + 1, 0, none⟩ = some (.int .i64 0) ∧ ¬ SafeP q k m (elM q F)
theorem SafX.soft {q : FP} {b wd k m B : Nat} {F : Nat → Nat → Int} {w X Y : World} (h : SafX q b wd k m F w X) (hb : Soft B X Y) (hB : w.heap.size ≤ B) (h4 : w.heap.size + 1 < B) (h5 : w.heap.size + 1 + 1 < B) : SafX q b wd k m F w Y := by
  obtain ⟨h1, h2, h3, h6, h7⟩ := h
  exact ⟨hb.fld h1, hb.turned h2 hB, (World.cell?_of_block (hb.at_ h4 (lt_of_cell h3))).trans h3, (World.cell?_of_block (hb.at_ h5 (lt_of_cell h6))).trans h6, h7⟩

/-- a region that draws its order, by hand -/
theorem region_plain {P : Program} {id : Nat} {ops : Array Oper} {Q : Exit → Act → World → Prop} {a : Act} {w : World} (S : World → Prop) (N : Nat) (hN : ops.size = N) (hm : P.follows .mixedOrders = true)
    (h : wpAnyH P .any ops (OnlyN Q) S N (Array.replicate N false) a w.drew) : (Code.region id ops true).wp P Q a w := by
  subst hN
  exact Code.wp_mono OnlyN.imp (wp_region_any hm (wpAny_of_held _ _ _ _ h))

/-- Join, of the identity and p -/
theorem join_id (b wd c k m : Nat) (hkd : Kind wd c) (F : Nat → Nat → Int) (Ls : Nat → Nat) (AI B : Option Addr) (cI cb : Nat) (X : World) (hI : mayP c k (fun _ => k) idF) (hF : mayP c m Ls F) (hl : Ls 0 = k) (hkm : k + m ≤ 20) (hc : X.cell? ⟨b, 0, none⟩ = some (.int .i64 wd)) (h1 : Mx b X idF (fun _ => k) AI k) (h2 : Mx b X F Ls B m) :
    Calls Tryz.prog 18 #[.pointer (some ⟨b, 0, none⟩), .slice AI k cI, .slice B m cb] X fun e w' => ∃ A c, e = .returned (.tuple #[.slice A (k + m) c, .int .i64 0]) ∧ (∀ b', b' < X.heap.size → Mx b' w' (joinF k idF F) (fun _ => k) A (k + m)) ∧ Below X.heap.size X w' := by
  refine (join14 b wd c hkd idF F (fun _ => k) Ls AI B k m cI cb X hc h1 h2).mono ?_
  rintro e w' ⟨t, v, rfl, ht, hv⟩
  obtain rfl : t = true := ht.2 ⟨hI, hF, hl.symm, hkm⟩
  obtain ⟨A, c', rfl, _, hx, hb⟩ := hv
  refine ⟨A, c', rfl, fun b' hb' => (hx b' hb').congr (fun r hr => ?_) (fun _ _ _ _ => rfl), hb⟩
  unfold joinL
  simp only [cond] at hr
  split
  · rfl
  · rw [(hF.2.2 (r - k) (by omega)).1, hl]

set_option maxRecDepth 100000 in
set_option maxHeartbeats 4000000 in
theorem safe_yes (q : FP) (b wd m : Nat) (Ls : Nat → Nat) (F : Nat → Nat → Int) (A : Option Addr) (cap : Nat) (w : World) (hf : Fld q.p b wd w) (hm : Mx b w F Ls A m) (hyes : safeP (M.ord q.p) m Ls F) :
    Calls Tryz.prog 8 #[.pointer (some ⟨b, 0, none⟩), .slice A m cap] w (SafeSaid q b wd m Ls F w) := by
  have hkd := hf.1.kind
  have hcb := hkd.bounds
  have hbl := hf.lt
  obtain ⟨w2, hw2⟩ : ∃ w2, safeW b w = w2 := ⟨_, rfl⟩
  have hbe := safeW_below b w
  have r1 := safeW_f b w
  have r2 := safeW_r b w
  have r3 := safeW_e b w
  have hs2 := safeW_size b w
  rw [hw2] at hbe r1 r2 r3 hs2
  have HS2 := Lib.hid hs2
  have HB := Lib.hid hbe
  have R1 := Lib.hid r1
  have R2 := Lib.hid r2
  have R3 := Lib.hid r3
  have c1 := r1.cell (i := 0) (by omega)
  have HF2 := Lib.hid (hf.of_below hbe)
  have HM := Lib.hid (may16 b wd _ hkd F Ls A m cap w2 HF2.out.c0 (hm.below hbe))
  obtain ⟨hmay, h5, h8⟩ := hyes
  have HMAY := Lib.hid hmay
  have hm1 := hmay.1.1
  have hk1 := hmay.2.1.1
  have HX2 := Lib.hid (hm.below hbe)
  obtain ⟨ad, A0, C0, rfl, hc0⟩ : ∃ ad A0 C0, A = some ad ∧ w2.cell? ad = some (.slice A0 (Ls 0) C0) := by
    obtain ⟨As, Cs, ha, _⟩ := hm.below hbe
    obtain ⟨ad, rfl, hc⟩ := ha.at_ (show 0 < m by omega)
    rw [show ad.add 0 = ad by simp [Addr.add]] at hc
    exact ⟨ad, _, _, rfl, hc⟩
  have HLS := Lib.hid (show ∀ r, r < m → Ls r = Ls 0 from fun r hr => (hmay.2.2 r hr).1)
  obtain ⟨k, hk⟩ : ∃ k, Ls 0 = k := ⟨_, rfl⟩
  have HK := Lib.hid hk
  rw [hk] at h8 hk1 hc0
  have hm0 : (0 : Int) < (m : Int) := by omega
  have e1 : decide ((5 : Int) < (m : Int)) = false := by simp; omega
  have e2 : decide ((8 : Int) < (k : Int)) = false := by simp; omega
  have HID := Lib.hid (fun w => identity_yes k ⟨hk1, by omega⟩ w)
  have HMJ := Lib.hid (show mayP (M.ord q.p) k (fun _ => k) idF from ⟨⟨hk1, by omega⟩, ⟨hk1, by dsimp only; omega⟩, fun r _ => ⟨rfl, fun j _ => by unfold idF; split <;> omega⟩⟩)
  have KC := Lib.hid (show ∀ w', Below w2.heap.size w2 w' → w'.cell? ⟨b, 0, none⟩ = some (.int .i64 wd) ∧ Mx b w' F Ls (some ad) m from fun w' h => ⟨(HF2.out.of_below h).c0, HX2.out.below h⟩)
  unfold safeW at hw2
  clear r1 r2 r3 hbe hm hf hmay hk hs2
  refine (callsIn_wide (n := 5)).1 ?_
  refine callsIn_of_wp_marks Tryz.func8 rfl trivial ?_ rfl
  simp only [Tryz.ntmps8, List.size_toArray, List.length_cons, List.length_nil, Nat.reduceAdd, Nat.reduceSub, Array.replicate_succ, Array.replicate_zero, List.push_toArray, List.append_toArray, List.nil_append, List.cons_append]
  gi_wp2_with fail
  refine ⟨trivial, (callsIn_wide.2 HM.out).mono ?_⟩
  rintro e w' ⟨t, rfl, ht, rfl⟩
  obtain rfl : t = true := ht.2 HMAY.out
  clear ht HM
  gi_wp2_with fail
  refine wpIn_wide.2 ?_
  have KS := Lib.hid (show ∀ w', Below w2.heap.size w2 w' → w'.cell? ⟨w.heap.size, 0, none⟩ = some (.pointer (some ⟨b, 0, none⟩)) from fun w' h => (h.cell (lt_of_cell c1)).trans c1)
  have HJ := Lib.hid (fun AI cI X (h : Below w2.heap.size w2 X) (h1 : Mx b X idF (fun _ => k) AI k) => join_id b wd _ k m hkd F Ls AI (some ad) cI cap X HMJ.out HMAY.out HK.out (by omega) (KC.out X h).1 h1 (KC.out X h).2)
  have hS : Below w2.heap.size w2 w2.drew := (Below.refl _ w2).drew
  go_cut [7, 8] from 32 to 39 (fun s7 s8 wr => WholeAt b k m F w2 s7 s8 wr)
  case first =>
    refine region_plain (fun w' => Below w2.heap.size w2 w') 11 rfl (by kernel_rfl) ?_
    refine takeL (i := 0) (v := .pointer (some ⟨b, 0, none⟩)) rfl (by kernel_rfl) (by kernel_rfl) (by kernel_rfl) rfl (fun w' hSw => ?tk0) hS ?_
    case tk0 =>
      have := KS.out w' hSw
      go_simp
    simp only [Act.put, List.setIfInBounds_toArray, List.set_cons_zero, List.set_cons_succ]
    refine takeL (i := 1) (v := .int .i64 k) rfl (by kernel_rfl) (by kernel_rfl) (by kernel_rfl) rfl (fun w' hSw => ?tk1) hS ?_
    case tk1 => go_simp
    simp only [Act.put, List.setIfInBounds_toArray, List.set_cons_zero, List.set_cons_succ]
    refine takeL (i := 3) (v := .slice (some ad) m cap) rfl (by kernel_rfl) (by kernel_rfl) (by kernel_rfl) rfl (fun w' hSw => ?tk3) hS ?_
    case tk3 => go_simp
    simp only [Act.put, List.setIfInBounds_toArray, List.set_cons_zero, List.set_cons_succ]
    refine stepL2 (i := 2) (j := 8) (by kernel_rfl) rfl rfl rfl rfl (fun K hK => ?br2) (fun K hK => ?br8)
    case br2 =>
      go_simp
      refine (HID.out _).mono ?_
      rintro e w4 ⟨v, rfl, AI, cI, rfl, _, hxI, hb4⟩
      have hS4 := below_tr hS hb4
      have HXI := Lib.hid (hxI b (by have := HS2.out; show b < w2.heap.size; omega))
      clear hxI hb4
      dsimp only
      refine hK _ _ hS4 ?_
      clear hK K
      try simp only [Act.put, List.setIfInBounds_toArray, List.set_cons_zero, List.set_cons_succ]
      refine stepL2 (i := 4) (j := 8) (by kernel_rfl) rfl rfl rfl rfl (fun K hK => ?br4) (fun K hK => ?bb8)
      case br4 =>
        go_simp
        refine (HJ.out AI cI w4 hS4 HXI.out).mono ?_
        rintro e w5 ⟨A5, c5, rfl, hx5, hb5⟩
        have hS5 := below_tr hS4 hb5
        have HX5 := Lib.hid (hx5 b (by have := HS2.out; have := hS4.size; omega))
        have HE := Lib.hid (whole_done (c := c5) (box_new w5) hS5.size (HX5.out.fresh.below (below_alloc w5 _)) (HX5.out.below (below_alloc w5 _)) (hS5.alloc hS5.size _))
        rw [World.setCell_alloc_new, show (#[nilS] : Array Value).setIfInBounds 0 (.slice A5 (k + m) c5) = #[.slice A5 (k + m) c5] by simp] at HE
        clear hx5 hb5
        dsimp only
        refine hK _ _ hS5 ?_
        clear hK K
        try simp only [Act.put, List.setIfInBounds_toArray, List.set_cons_zero, List.set_cons_succ]
        refine takeL (i := 5) (v := .tuple #[.slice A5 (k + m) c5, .int .i64 0]) rfl (by kernel_rfl) (by kernel_rfl) (by kernel_rfl) rfl (fun w' hSw => ?_) hS5 ?_
        · go_simp
        try simp only [Act.put, List.setIfInBounds_toArray, List.set_cons_zero, List.set_cons_succ]
        refine takeL (i := 6) (v := .slice A5 (k + m) c5) rfl (by kernel_rfl) (by kernel_rfl) (by kernel_rfl) rfl (fun w' hSw => ?_) hS5 ?_
        · go_simp
        try simp only [Act.put, List.setIfInBounds_toArray, List.set_cons_zero, List.set_cons_succ]
        refine takeL (i := 7) (v := .int .i64 0) rfl (by kernel_rfl) (by kernel_rfl) (by kernel_rfl) rfl (fun w' hSw => ?_) hS5 ?_
        · go_simp
        try simp only [Act.put, List.setIfInBounds_toArray, List.set_cons_zero, List.set_cons_succ]
        refine stepL (i := 8) (by kernel_rfl) rfl rfl (fun K hK => ?_)
        go_simp
        have hS6 := hS5.alloc hS5.size (.cells #[nilS] TM)
        refine hK _ _ hS6 ?_
        clear hK K
        try simp only [Act.put, List.setIfInBounds_toArray, List.set_cons_zero, List.set_cons_succ]
        refine stepL (i := 9) (by kernel_rfl) rfl rfl (fun K hK => ?_)
        have g1 := (box_new w5).cell (i := 0) (by omega)
        have f1 := (box_new w5).frozen 0
        have hS7 : Below w2.heap.size w2 (w5.alloc (.cells #[.slice A5 (k + m) c5] TM)) := hS5.alloc hS5.size _
        go_simp
        refine hK _ _ hS7 ?_
        clear hK K
        try simp only [Act.put, List.setIfInBounds_toArray, List.set_cons_zero, List.set_cons_succ]
        refine takeL (i := 10) (v := .int .i64 0) rfl (by kernel_rfl) (by kernel_rfl) (by kernel_rfl) rfl (fun w' hSw => ?_) hS7 ?_
        · go_simp
        try simp only [Act.put, List.setIfInBounds_toArray, List.set_cons_zero, List.set_cons_succ]
        refine wpAnyH_done (by kernel_rfl) ?_ _
        dsimp only [OnlyN]
        go_wp2_with fail
        go_meet
        case rel => exact HE.out
      case bb8 =>
        have hS4' := hS4.alloc hS4.size (.cells #[nilS] TM)
        have rb := box_new w4
        go_simp
        refine hK _ _ hS4' ?_
        clear hK K
        try simp only [Act.put, List.setIfInBounds_toArray, List.set_cons_zero, List.set_cons_succ]
        refine stepL (i := 4) (by kernel_rfl) rfl rfl (fun K hK => ?_)
        go_simp
        refine (HJ.out AI cI _ hS4' (HXI.out.below (below_alloc w4 _))).mono ?_
        rintro e w5 ⟨A5, c5, rfl, hx5, hb5⟩
        have hS5 := below_tr hS4' hb5
        have rb5 := rb.of_block (hb5.block _ rb.lt)
        have HE := Lib.hid (whole_done (c := c5) rb5 hS4.size (hx5 _ (by simp)) (hx5 b (by have := HS2.out; have := hS4.size; simp; omega)) hS5)
        have g1 := rb5.cell (i := 0) (by omega)
        have f1 := rb5.frozen 0
        have hS7 := hS5.setCell (p := ⟨w4.heap.size, 0, none⟩) hS4.size (.slice A5 (k + m) c5)
        clear hx5 hb5 rb rb5
        dsimp only
        refine hK _ _ hS5 ?_
        clear hK K
        try simp only [Act.put, List.setIfInBounds_toArray, List.set_cons_zero, List.set_cons_succ]
        refine takeL (i := 5) (v := .tuple #[.slice A5 (k + m) c5, .int .i64 0]) rfl (by kernel_rfl) (by kernel_rfl) (by kernel_rfl) rfl (fun w' hSw => ?_) hS5 ?_
        · go_simp
        try simp only [Act.put, List.setIfInBounds_toArray, List.set_cons_zero, List.set_cons_succ]
        refine takeL (i := 6) (v := .slice A5 (k + m) c5) rfl (by kernel_rfl) (by kernel_rfl) (by kernel_rfl) rfl (fun w' hSw => ?_) hS5 ?_
        · go_simp
        try simp only [Act.put, List.setIfInBounds_toArray, List.set_cons_zero, List.set_cons_succ]
        refine takeL (i := 7) (v := .int .i64 0) rfl (by kernel_rfl) (by kernel_rfl) (by kernel_rfl) rfl (fun w' hSw => ?_) hS5 ?_
        · go_simp
        try simp only [Act.put, List.setIfInBounds_toArray, List.set_cons_zero, List.set_cons_succ]
        refine stepL (i := 9) (by kernel_rfl) rfl rfl (fun K hK => ?_)
        go_simp
        refine hK _ _ hS7 ?_
        clear hK K
        try simp only [Act.put, List.setIfInBounds_toArray, List.set_cons_zero, List.set_cons_succ]
        refine takeL (i := 10) (v := .int .i64 0) rfl (by kernel_rfl) (by kernel_rfl) (by kernel_rfl) rfl (fun w' hSw => ?_) hS7 ?_
        · go_simp
        try simp only [Act.put, List.setIfInBounds_toArray, List.set_cons_zero, List.set_cons_succ]
        refine wpAnyH_done (by kernel_rfl) ?_ _
        dsimp only [OnlyN]
        go_wp2_with fail
        go_meet
        case rel => exact HE.out
    case br8 =>
      have hS' := hS.alloc hS.size (.cells #[nilS] TM)
      have rb := box_new w2.drew
      go_simp
      refine hK _ _ hS' ?_
      clear hK K
      try simp only [Act.put, List.setIfInBounds_toArray, List.set_cons_zero, List.set_cons_succ]
      refine stepL (i := 2) (by kernel_rfl) rfl rfl (fun K hK => ?_)
      go_simp
      refine (HID.out _).mono ?_
      rintro e w4 ⟨v, rfl, AI, cI, rfl, _, hxI, hb4⟩
      have hS4 := below_tr hS' hb4
      have HXI := Lib.hid (hxI b (by have := HS2.out; simp; omega))
      have rb4 := rb.of_block (hb4.block _ rb.lt)
      have hlt4 : w2.heap.size < w4.heap.size := rb4.lt
      clear hxI hb4
      dsimp only
      refine hK _ _ hS4 ?_
      clear hK K
      try simp only [Act.put, List.setIfInBounds_toArray, List.set_cons_zero, List.set_cons_succ]
      refine stepL (i := 4) (by kernel_rfl) rfl rfl (fun K hK => ?_)
      go_simp
      refine (HJ.out AI cI w4 hS4 HXI.out).mono ?_
      rintro e w5 ⟨A5, c5, rfl, hx5, hb5⟩
      have hS5 := below_tr hS4 hb5
      have rb5 : w5.rowIs w2.heap.size TM 1 (fun _ => nilS) := rb4.of_block (hb5.block _ rb4.lt)
      have HE := Lib.hid (whole_done (c := c5) rb5 (Nat.le_refl _) (hx5 _ hlt4) (hx5 b (by have := HS2.out; omega)) hS5)
      have g1 := rb5.cell (i := 0) (by omega)
      have f1 := rb5.frozen 0
      have hS7 := hS5.setCell (p := ⟨w2.heap.size, 0, none⟩) (Nat.le_refl _) (.slice A5 (k + m) c5)
      clear hx5 hb5 rb rb4 rb5
      dsimp only
      refine hK _ _ hS5 ?_
      clear hK K
      try simp only [Act.put, List.setIfInBounds_toArray, List.set_cons_zero, List.set_cons_succ]
      refine takeL (i := 5) (v := .tuple #[.slice A5 (k + m) c5, .int .i64 0]) rfl (by kernel_rfl) (by kernel_rfl) (by kernel_rfl) rfl (fun w' hSw => ?_) hS5 ?_
      · go_simp
      try simp only [Act.put, List.setIfInBounds_toArray, List.set_cons_zero, List.set_cons_succ]
      refine takeL (i := 6) (v := .slice A5 (k + m) c5) rfl (by kernel_rfl) (by kernel_rfl) (by kernel_rfl) rfl (fun w' hSw => ?_) hS5 ?_
      · go_simp
      try simp only [Act.put, List.setIfInBounds_toArray, List.set_cons_zero, List.set_cons_succ]
      refine takeL (i := 7) (v := .int .i64 0) rfl (by kernel_rfl) (by kernel_rfl) (by kernel_rfl) rfl (fun w' hSw => ?_) hS5 ?_
      · go_simp
      try simp only [Act.put, List.setIfInBounds_toArray, List.set_cons_zero, List.set_cons_succ]
      refine stepL (i := 9) (by kernel_rfl) rfl rfl (fun K hK => ?_)
      go_simp
      refine hK _ _ hS7 ?_
      clear hK K
      try simp only [Act.put, List.setIfInBounds_toArray, List.set_cons_zero, List.set_cons_succ]
      refine takeL (i := 10) (v := .int .i64 0) rfl (by kernel_rfl) (by kernel_rfl) (by kernel_rfl) rfl (fun w' hSw => ?_) hS7 ?_
      · go_simp
      try simp only [Act.put, List.setIfInBounds_toArray, List.set_cons_zero, List.set_cons_succ]
      refine wpAnyH_done (by kernel_rfl) ?_ _
      dsimp only [OnlyN]
      go_wp2_with fail
      go_meet
      case rel => exact HE.out
  case rest =>
    obtain ⟨bw, A3, c3, rfl, rfl, hbw, hcw, hx3, hb3⟩ := hcut
    have HX3 := Lib.hid hx3
    have HB3 := Lib.hid hb3
    have c1' := KS.out _ hb3
    have hsz3 := hb3.size
    have hbwl := lt_of_cell hcw
    clear hx3 HJ HID KC hS c1 hc0
    gi_wp2_with fail
    refine ⟨trivial, (callsIn_wide.2 (choices35 (k + m) k wc)).mono ?_⟩
    rintro e w6 ⟨rfl, hw6⟩
    have hb6 : Below wc.heap.size wc w6 := by rw [← hw6]; exact (below_alloc wc _).alloc (by simp) _
    have hs6 : w6.heap.size = wc.heap.size + 2 := by rw [← hw6]; simp
    have x1 : w6.cell? ⟨wc.heap.size, 0, none⟩ = some (.int .i64 ((k + m : Nat) : Int)) := by rw [← hw6]; simp
    have x2 : w6.cell? ⟨wc.heap.size + 1, 0, none⟩ = some (.int .i64 k) := by rw [← hw6]; simp
    have HB6 := Lib.hid (below_tr hb3 hb6)
    have HF6 := Lib.hid (HF2.out.of_below HB6.out)
    have HX6 := Lib.hid (HX3.out.below hb6)
    have y1 : w6.cell? ⟨w.heap.size, 0, none⟩ = some (.pointer (some ⟨b, 0, none⟩)) := KS.out _ HB6.out
    have y2 : w6.cell? ⟨bw, 0, none⟩ = some (.slice A3 (k + m) c3) := (hb6.cell hbwl).trans hcw
    have HR2 := Lib.hid (R2.out.of_block (HB6.out.block _ R2.out.lt))
    have HR3 := Lib.hid (R3.out.of_block (HB6.out.block _ R3.out.lt))
    have HT6 := Lib.hid (show Turned b w w6 from Turned.of_below (below_tr HB.out HB6.out))
    have hs2 := HS2.out
    have hb4 : w.heap.size + 1 < w6.heap.size := HR2.out.lt
    have hb5 : w.heap.size + 1 + 1 < w6.heap.size := HR3.out.lt
    have hwl : w.heap.size ≤ w6.heap.size := by omega
    have HMW := Lib.hid (show mayP (M.ord q.p) (k + m) (fun _ => k) (joinF k idF F) from ⟨⟨by omega, by omega⟩, ⟨hk1, by dsimp only; omega⟩, fun r hr => ⟨rfl, fun j hj => by
      unfold joinF
      split
      · exact (HMJ.out.2.2 r (by omega)).2 j hj
      · exact (HMAY.out.2.2 (r - k) (by omega)).2 j (by rw [HLS.out _ (by omega), HK.out]; exact hj)⟩⟩)
    have HGC := Lib.hid (fun l => good_join (q := q) (k := k) F l)
    have HYS := Lib.hid (show safeP (M.ord q.p) m Ls F from ⟨HMAY.out, h5, by rw [HK.out]; exact h8⟩)
    clear hw6 hcw hb3 c1' hb6 hw2 hs2 HMAY HMJ HX2 HX3 HB3 HF2 R1 R2 R3 HB KS HB6
    gi_wp2_with fail
    refine' range_leave (by omega) (gf := 49) (lb := #[.pointer (some ⟨wc.heap.size + 1, 0, none⟩), .pointer (some ⟨wc.heap.size, 0, none⟩)]) rfl (enters_of Tryz.func49 (by kernel_rfl) rfl)
      (encs := fun x : Option Addr × Nat => #[.slice x.1 k x.2]) (fun _ => rfl) (choices_hand 4 b (wc.heap.size + 1) wc.heap.size k (k + m) hk1 (by omega) (by omega) (by omega) (fun W hT => by have := lt_of_cell hT.1; dsimp only at *; omega))
      (fun l W => SafI q b wd w6 W ∧ SafeTo q k m (elM q F) l) (fun l W => SafI q b wd w6 W ∧ SafeTo q k m (elM q F) l ∧ GoodCh q k (elM q F) l) (SafX q b wd k m F w)
      (fun l W h => ?hit) (fun l W h => ?hmt) (fun l X Y h hb => ⟨h.1.soft hb, h.2⟩) (fun l X Y h hb => ⟨h.1.soft hb, h.2⟩) (fun X Y h hb => h.soft hb hwl hb4 hb5) (fun l l' X h hn => ?hmi) (fun l x X r o o' h ho hc => ⟨h.1, h.2.put ho hc⟩) ⟨⟨HF6.out, Turned.refl _ _⟩, safeTo_first _ _ _⟩ _ ?assign ?body ?done ?stop
    case hit => exact h.1.told x1 x2 (by omega)
    case hmt => exact h.1.told x1 x2 (by omega)
    case hmi =>
      obtain ⟨i, hi, rfl⟩ := hn
      exact ⟨h.1, safeTo_next h.2.1 h.2.2 hi⟩
    case assign =>
      intro l x W K hK
      gi_wp2_with fail
      exact hK
    case body =>
      intro l ch x W hI hX
      obtain ⟨⟨hf, ht⟩, hTo⟩ := hI
      have HT := Lib.hid ht
      have HTO := Lib.hid hTo
      have HXC := Lib.hid hX
      have z1 := (ht.cell (q := ⟨w.heap.size, 0, none⟩) (lt_of_cell y1) (by simp; omega)).trans y1
      have z2 := (ht.cell (q := ⟨bw, 0, none⟩) (lt_of_cell y2) (by have := HS2.out; simp; omega)).trans y2
      have HH := Lib.hid (have36 q b wd (k + m) k (joinF k idF F) A3 x.1 c3 x.2 ch HMW.out (fun r hr => hX.1.1 r hr) W hf (HX6.out.turned ht) hX.2)
      clear hf ht hTo hX
      try dsimp only
      gi_wp2_with fail
      refine ⟨trivial, (CallsIn.inRound l (callsIn_wide.2 HH.out)).mono ?_⟩
      rintro e W' ⟨t, rfl, hgt, hf', ht'⟩
      rw [HGC.out ch] at hgt
      have htt := HT.out.trans ht'
      have r4 := htt.row HR2.out (by omega)
      have r5 : W'.rowIs (w.heap.size + 1 + 1) TEr 1 (fun _ => .int .i64 0) := htt.row HR3.out (by omega)
      cases t
      · have g4 := r4.cell (i := 0) (by omega)
        have g5 := r5.cell (i := 0) (by omega)
        have f4 := r4.frozen 0
        have f5 := r5.frozen 0
        have HE := Lib.hid (show KeptFrom w6.heap.size W ((W'.setCell ⟨w.heap.size + 1, 0, none⟩ (.bool false)).setCell ⟨w.heap.size + 1 + 1, 0, none⟩ (.int .i64 0)) ∧ SafX q b wd k m F w ((W'.setCell ⟨w.heap.size + 1, 0, none⟩ (.bool false)).setCell ⟨w.heap.size + 1 + 1, 0, none⟩ (.int .i64 0)) from
          ⟨((KeptFrom.of_turned ht' (by omega)).setCell hb4 _).setCell hb5 _, (hf'.setRow r4 (by decide) (by decide) _).setRow (r5.setOther (a := ⟨w.heap.size + 1, 0, none⟩) (by simp) _) (by decide) (by decide) _,
            ((HT6.out.trans htt).set_new (by omega) _).set_new (by omega) _, by rw [World.cell?_setCell_other _ _ _ _ (by simp), World.cell?_setCell_same _ _ _ g4], World.cell?_setCell_same _ _ _ (by rw [World.cell?_setCell_other _ _ _ _ (by simp)]; exact g5),
            fun hs => by have := hgt.2 (hs ch HXC.out.1); cases this⟩)
        clear r4 r5 htt ht' hf' hgt z1 z2 HH
        gi_wp2_with fail
        exact HE.out
      · have HE := Lib.hid (show KeptFrom w6.heap.size W W' ∧ SafI q b wd w6 W' ∧ SafeTo q k m (elM q F) ch ∧ GoodCh q k (elM q F) ch from ⟨KeptFrom.of_turned ht' (by omega), ⟨hf', htt⟩, HTO.out, hgt.1 rfl⟩)
        clear r4 r5 htt ht' hf' hgt z1 z2 HH
        gi_wp2_with fail
        exact HE.out
    case done =>
      rintro D ch W hD hfin ⟨⟨hf, ht⟩, hTo, hG⟩ hK
      have r4 := ht.row HR2.out (by omega)
      have r5 : W.rowIs (w.heap.size + 1 + 1) TEr 1 (fun _ => .int .i64 0) := ht.row HR3.out (by omega)
      have g4 := r4.cell (i := 0) (by omega)
      have g5 := r5.cell (i := 0) (by omega)
      have f4 := r4.frozen 0
      have f5 := r5.frozen 0
      obtain ⟨w9, hw9⟩ : ∃ w9, (W.setCell ⟨w.heap.size + 1, 0, none⟩ (.bool true)).setCell ⟨w.heap.size + 1 + 1, 0, none⟩ (.int .i64 0) = w9 := ⟨_, rfl⟩
      have hk9 : w9.heap[D]? = some (.deferred (some [])) := by
        rw [← hw9]
        simp only [World.setCell, Array.getElem?_modify]
        rw [if_neg (by omega), if_neg (by omega)]
        exact hK
      have hf9 : Fld q.p b wd w9 := by rw [← hw9]; exact (hf.setRow r4 (by decide) (by decide) _).setRow (r5.setOther (a := ⟨w.heap.size + 1, 0, none⟩) (by simp) _) (by decide) (by decide) _
      have ht9 : Turned b w w9 := by rw [← hw9]; exact ((HT6.out.trans ht).set_new (by omega) _).set_new (by omega) _
      have d4 : w9.cell? ⟨w.heap.size + 1, 0, none⟩ = some (.bool true) := by rw [← hw9, World.cell?_setCell_other _ _ _ _ (by simp), World.cell?_setCell_same _ _ _ g4]
      have d5 : w9.cell? ⟨w.heap.size + 1 + 1, 0, none⟩ = some (.int .i64 0) := by
        rw [← hw9]
        exact World.cell?_setCell_same _ _ _ (by rw [World.cell?_setCell_other _ _ _ _ (by simp)]; exact g5)
      have hso : Soft w6.heap.size w9 (w9.putObj D (.deferred none)) := Soft.put hD hk9 rfl _
      have HE := Lib.hid (show SafeSaid q b wd m Ls F w (.returned (.tuple #[.bool true, .int .i64 0])) (w9.putObj D (.deferred none)) from
        ⟨true, true, rfl, by simp [HYS.out], by simp; rw [HK.out]; exact safeTo_last hTo hG hfin, hso.fld hf9, hso.turned ht9 hwl⟩)
      have p4 := (World.cell?_of_block (hso.at_ (k := (⟨w.heap.size + 1, 0, none⟩ : Addr).block) hb4 (lt_of_cell d4))).trans d4
      have p5 := (World.cell?_of_block (hso.at_ (k := (⟨w.heap.size + 1 + 1, 0, none⟩ : Addr).block) hb5 (lt_of_cell d5))).trans d5
      clear r4 r5 hf ht hTo hG hfin hf9 ht9 d4 d5 hso hK
      gi_wp2_with fail
      refine ⟨by simp, .inl ⟨_, _, rfl, run_takeDeferred hk9, ?_⟩⟩
      exact ⟨_, results_cells2 rfl _ _ _ rfl rfl aggBl aggEr p4 p5, HE.out⟩
    case stop =>
      rintro D W hD ⟨hf, ht, d4, d5, hns⟩ hk9
      have hso : Soft w6.heap.size W (W.putObj D (.deferred none)) := Soft.put hD hk9 rfl _
      have HE := Lib.hid (show SafeSaid q b wd m Ls F w (.returned (.tuple #[.bool false, .int .i64 0])) (W.putObj D (.deferred none)) from
        ⟨true, false, rfl, by simp [HYS.out], by simp; rw [HK.out]; exact hns, hso.fld hf, hso.turned ht hwl⟩)
      have p4 := (World.cell?_of_block (hso.at_ (k := (⟨w.heap.size + 1, 0, none⟩ : Addr).block) hb4 (lt_of_cell d4))).trans d4
      have p5 := (World.cell?_of_block (hso.at_ (k := (⟨w.heap.size + 1 + 1, 0, none⟩ : Addr).block) hb5 (lt_of_cell d5))).trans d5
      clear hf ht hns d4 d5 hso
      gi_wp2_with fail
      refine ⟨by simp, .inl ⟨_, _, rfl, run_takeDeferred hk9, ?_⟩⟩
      exact ⟨_, results_cells2 rfl _ _ _ rfl rfl aggBl aggEr p4 p5, HE.out⟩

theorem safe_any (q : FP) (b wd m : Nat) (Ls : Nat → Nat) (F : Nat → Nat → Int) (A : Option Addr) (cap : Nat) (w : World) (hf : Fld q.p b wd w) (hm : Mx b w F Ls A m) :
    Calls Tryz.prog 8 #[.pointer (some ⟨b, 0, none⟩), .slice A m cap] w (SafeSaid q b wd m Ls F w) := by
  by_cases h : safeP (M.ord q.p) m Ls F
  · exact safe_yes q b wd m Ls F A cap w hf hm h
  · exact safe_no q b wd m Ls F A cap w hf hm h
end Go.Proofs.YtgcochamjicjiaaGreat
