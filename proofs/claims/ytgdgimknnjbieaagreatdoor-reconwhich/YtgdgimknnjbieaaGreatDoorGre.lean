/- Layer 12: contracts of isCount and areAlike, and of the function that tells the shards that are there. Layer 12: the contract of chosen: the first of the shards that are there. Layer 12: the contracts of rowsOf and Data. -/
import Derived.Test.YtgdgimknnjbieaaGreatDoorGra
import Derived.Test.YtgdgimknnjbieaaGreatDoorRfh
import Derived.Test.YtgdgimknnjbieaaGreatDoorGyd
import Derived.Test.YtgdgimknnjbieaaGreatDoorGxp
import Derived.RangeFuncBox
import Derived.Test.YtgdgimknnjbieaaGreatDoorGrb

namespace Go.Proofs.YtgdgimknnjbieaaGreatDoor
open Go.RowKit Go.Shelf
attribute [local go_sem] Oper.semAt_some

/-- what isCount tells -/
def CountSaid (p k m : Int) (n : Nat) (w : World) (e : Ending) (w' : World) : Prop := ∃ t, e = .returned (.bool t) ∧ (t = true ↔ mayX p k m ∧ (n : Int) = k + m) ∧ Below w.heap.size w w'

set_option maxRecDepth 100000 in
theorem count24 (p k m : Int) (n : Nat) (w : World) (hT : Tab w) : Calls Tryz.prog 24 #[.agg (parA p k m), .int .i64 n] w (CountSaid p k m n w) := by
  obtain ⟨v, hv⟩ : ∃ v, w.alloc (.cells #[.int .i64 p, .int .i64 k, .int .i64 m] TPa) = v := ⟨_, rfl⟩
  obtain ⟨_, e0, hbv⟩ := one_box hv
  have E0 := Lib.hid e0
  have HV := Lib.hid hbv
  have HT := Lib.hid (hT.below hbv)
  obtain ⟨d0, d1, d2⟩ := box_three e0
  clear e0 hbv hT
  go_enter Tryz.func24, Tryz.ntmps24
  go_wp2_with fail
  refine (may15 p k m _ HT.out).mono ?_
  rintro e w1 ⟨t, rfl, ht, hb1⟩
  have H1 := Lib.hid (below_tr HV.out hb1)
  have E1 := Lib.hid (kept_box E0.out hb1)
  have HM := Lib.hid ht
  clear hb1 d0 d1 d2 ht HT
  obtain ⟨d0, d1, d2⟩ := box_three E1.out
  cases t
  · have HE := Lib.hid (show CountSaid p k m n w (.returned (.bool false)) w1 from ⟨false, rfl, ⟨fun h => (by cases h), fun h => (by have := HM.out.2 h.1; cases this)⟩, H1.out⟩)
    go_wp2_with fail
    go_ret
    exact HE.out
  · have HP := Lib.hid (HM.out.1 rfl)
    obtain ⟨K, rfl⟩ : ∃ K : Nat, k = K := ⟨k.toNat, by have := HP.out.2.1; omega⟩
    obtain ⟨M, rfl⟩ : ∃ M : Nat, m = M := ⟨m.toNat, by have := HP.out.2.2.1; omega⟩
    have hK := HP.out.2.1
    have hM : 1 ≤ M ∧ M ≤ 4 := by have := HP.out.2.2; have := (max_pos HP.out.1).2; omega
    by_cases hk : n = K + M
    · have he : (((n : Nat) : Int) == ((K : Int) + (M : Int))) = true := by simp; omega
      have HE := Lib.hid (show CountSaid p K M n w (.returned (.bool true)) w1 from ⟨true, rfl, ⟨fun _ => ⟨HP.out, by omega⟩, fun _ => rfl⟩, H1.out⟩)
      clear hk
      go_wp2_with fail
      go_ret
      exact HE.out
    · have he : (((n : Nat) : Int) == ((K : Int) + (M : Int))) = false := by simp; omega
      have HE := Lib.hid (show CountSaid p K M n w (.returned (.bool false)) w1 from ⟨false, rfl, ⟨fun h => (by cases h), fun h => (by have := h.2; omega)⟩, H1.out⟩)
      clear hk
      go_wp2_with fail
      go_ret
      exact HE.out

set_option maxRecDepth 100000 in
/-- one row beside the first one -/
theorem alike77 (b x : Nat) (B : Option Addr) (n cb : Nat) (As : Nat → Option Addr) (Ls Cs : Nat → Nat) (A : Option Addr) (N c g : Nat) (hN : 0 < N) (w : World) (hx : x = Ls 0) (hr : Rd b w (slis As Ls Cs) A N) (hg : w.cell? ⟨g, 0, none⟩ = some (.slice A N c)) :
    Calls Tryz.prog 77 #[.slice B n cb, .pointer (some ⟨g, 0, none⟩)] w fun e w' => e = .returned (.bool ((n : Int) != (x : Int))) ∧ w = w' := by
  obtain ⟨ad, rfl, c0⟩ := hr.at_ hN
  rw [show ad.add 0 = ad by simp [Addr.add]] at c0
  simp only [slis] at c0
  rw [← hx] at c0
  have hN1 : (0 : Int) < (N : Int) := by omega
  clear hr hx
  go_enter Tryz.func77, Tryz.ntmps77
  go_wp2_with fail
  go_ret
  exact ⟨rfl, rfl⟩

/-- are n rows all as long as the first one? -/
def oneLen (n : Nat) (Ls : Nat → Nat) : Prop := ∀ r, r < n → Ls r = Ls 0

/-- where the first row is that isn't as long -/
def IdxSaid (N : Nat) (Ls : Nat → Nat) (w : World) (e : Ending) (w' : World) : Prop := ∃ i : Int, e = .returned (.int .i64 i) ∧ -1 ≤ i ∧ i ≤ 1000000000 ∧ (i < 0 ↔ oneLen N Ls) ∧ w = w'

set_option maxRecDepth 100000 in
set_option maxHeartbeats 1000000 in
theorem index118 (b : Nat) (As : Nat → Option Addr) (Ls Cs : Nat → Nat) (A : Option Addr) (N c g : Nat) (hN : N ≤ 1000000000) (w : World) (hr : Rd b w (slis As Ls Cs) A N) (hg : w.cell? ⟨g, 0, none⟩ = some (.slice A N c)) :
    Calls Tryz.prog 118 #[.slice A N c, .func (.func 77) #[] #[.pointer (some ⟨g, 0, none⟩)]] w (IdxSaid N Ls w) := by
  have HR := Lib.hid hr
  have HG := Lib.hid hg
  clear hr hg
  go_enter Tryz.func118, Tryz.ntmps118
  go_wp2_with fail
  go_loop [8] (fun s8 => ∃ k : Nat, k ≤ N ∧ s8 = .int .i64 k ∧ Hid (∀ j, j < k → Ls j = Ls 0)) (fun s8 => N - (intOf s8).toNat)
  case atStart => exact ⟨0, Nat.zero_le _, rfl, Lib.hid (fun j hj => absurd hj (by omega))⟩
  case round =>
    obtain ⟨k, hk, rfl, hall⟩ := hrel
    by_cases hlt : k < N
    · obtain ⟨ad, e0, hcell⟩ := HR.out.at_ hlt
      have HQ := Lib.hid (fun B n cb => alike77 b (Ls 0) B n cb As Ls Cs A N c g (by omega) w rfl HR.out HG.out)
      subst e0
      simp only [slis] at hcell
      have hltI : (k : Int) < (N : Int) := by omega
      obtain ⟨x, hx⟩ : ∃ x, Ls k = x := ⟨_, rfl⟩
      obtain ⟨y, hy⟩ : ∃ y, Ls 0 = y := ⟨_, rfl⟩
      rw [hx] at hcell
      rw [hy] at HQ
      have HX := Lib.hid hx
      have HY := Lib.hid hy
      clear hx hy
      go_wp2_with fail
      refine (HQ.out _ _ _).mono ?_
      rintro e w' ⟨rfl, rfl⟩
      by_cases he : x = y
      · have hne : (((x : Nat) : Int) != ((y : Nat) : Int)) = false := by simp [he]
        have HE := Lib.hid (show ∀ j, j < k + 1 → Ls j = Ls 0 from fun j hj => (Nat.lt_succ_iff_lt_or_eq.1 hj).elim (fun h => hall.out j h) (fun h => by rw [h, HX.out, HY.out, he]))
        rw [hne]
        clear he hne HQ
        go_wp2_with fail
        exact ⟨⟨k + 1, hlt, by go_num, HE⟩, by simp [intOf]; omega⟩
      · have hne : (((x : Nat) : Int) != ((y : Nat) : Int)) = true := by simp; omega
        have HE := Lib.hid (show IdxSaid N Ls w (.returned (.int .i64 (k : Int))) w from ⟨k, rfl, by omega, by omega, ⟨fun h => absurd h (by omega), fun h => absurd (show x = y by rw [← HX.out, ← HY.out]; exact h k hlt) he⟩, rfl⟩)
        rw [hne]
        clear he hne HQ
        go_wp2_with fail
        go_ret
        exact HE.out
    · obtain rfl : k = N := by omega
      have HE := Lib.hid (show IdxSaid k Ls w (.returned (.int .i64 (-1))) w from ⟨-1, rfl, by omega, by omega, ⟨fun _ => hall.out, fun _ => by omega⟩, rfl⟩)
      go_wp2_with fail
      go_ret
      exact HE.out

/-- what areAlike tells -/
def AlikeSaidB (N : Nat) (Ls : Nat → Nat) (w : World) (e : Ending) (w' : World) : Prop := ∃ t, e = .returned (.bool t) ∧ (t = true ↔ oneLen N Ls) ∧ Below w.heap.size w w'

set_option maxRecDepth 100000 in
theorem alike76 (b : Nat) (As : Nat → Option Addr) (Ls Cs : Nat → Nat) (A : Option Addr) (N c g : Nat) (hN : N ≤ 1000000000) (w : World) (hr : Rd b w (slis As Ls Cs) A N) (hg : w.cell? ⟨g, 0, none⟩ = some (.slice A N c)) :
    Calls Tryz.prog 76 #[.slice A N c, .func (.func 77) #[] #[.pointer (some ⟨g, 0, none⟩)]] w fun e w' => ∃ t, e = .returned (.bool t) ∧ (t = false ↔ oneLen N Ls) ∧ w = w' := by
  have HI := Lib.hid (index118 b As Ls Cs A N c g hN w hr hg)
  clear hr hg
  go_enter Tryz.func76, Tryz.ntmps76
  go_wp2_with fail
  refine HI.out.mono ?_
  rintro e w' ⟨i, rfl, hi1, hi2, hi, rfl⟩
  have HH := Lib.hid hi
  clear hi
  by_cases h0 : i < 0
  · have hd : decide (i ≥ 0) = false := by simp; omega
    have hd2 : decide (0 ≤ i) = false := by simp; omega
    have HA := Lib.hid (HH.out.1 h0)
    go_wp2_with fail
    go_ret
    exact ⟨false, rfl, by simp [HA.out], rfl⟩
  · have hd : decide (i ≥ 0) = true := by simp; omega
    have hd2 : decide (0 ≤ i) = true := by simp; omega
    have HA := Lib.hid (fun h => h0 (HH.out.2 h))
    go_wp2_with fail
    go_ret
    exact ⟨true, rfl, ⟨fun h => (by cases h), fun h => absurd h HA.out⟩, rfl⟩

set_option maxRecDepth 100000 in
theorem alike44 (b : Nat) (As : Nat → Option Addr) (Ls Cs : Nat → Nat) (A : Option Addr) (N c : Nat) (hN : N ≤ 1000000000) (w : World) (hr : Rd b w (slis As Ls Cs) A N) :
    Calls Tryz.prog 44 #[.slice A N c] w (AlikeSaidB N Ls w) := by
  have hmf : ∀ (fn : Fn) (first cap : Array Value) (w : World), (Instr.makeFunc fn first cap).run Tryz.prog w = .ok (.func fn first cap) w := fun _ _ _ _ => rfl
  obtain ⟨v, hv⟩ : ∃ v, w.alloc (.cells #[.slice A N c] TRs) = v := ⟨_, rfl⟩
  obtain ⟨_, e0, hbv⟩ := one_box hv
  have hg : v.cell? ⟨w.heap.size, 0, none⟩ = some (.slice A N c) := by rw [← hv]; simp
  have HI := Lib.hid (alike76 b As Ls Cs A N c w.heap.size hN v (hr.below hbv) hg)
  have HV := Lib.hid hbv
  clear hr e0 hbv
  go_enter Tryz.func44, Tryz.ntmps44
  go_wp2_with fail
  refine HI.out.mono ?_
  rintro e w' ⟨t, rfl, ht, rfl⟩
  have HH := Lib.hid ht
  clear ht
  cases t
  · have HE := Lib.hid (show AlikeSaidB N Ls w (.returned (.bool true)) v from ⟨true, rfl, ⟨fun _ => HH.out.1 rfl, fun _ => rfl⟩, HV.out⟩)
    go_wp2_with fail
    go_ret
    exact HE.out
  · have HE := Lib.hid (show AlikeSaidB N Ls w (.returned (.bool false)) v from ⟨false, rfl, ⟨fun h => (by cases h), fun h => (by have := HH.out.2 h; cases this)⟩, HV.out⟩)
    go_wp2_with fail
    go_ret
    exact HE.out

set_option maxRecDepth 100000 in
theorem present41 (A : Option Addr) (N c : Nat) (Ah : Option Addr) (Nh ch : Nat) (w : World) :
    Calls Tryz.prog 41 #[.slice A N c, .slice Ah Nh ch] w fun e w' => e = .returned (.func (.func 75) #[] #[.pointer (some ⟨w.heap.size, 0, none⟩), .pointer (some ⟨w.heap.size + 1, 0, none⟩)]) ∧ (w.alloc (.cells #[.slice A N c] TRs)).alloc (.cells #[.slice Ah Nh ch] TBos) = w' := by
  have hmf : ∀ (fn : Fn) (first cap : Array Value) (w : World), (Instr.makeFunc fn first cap).run Tryz.prog w = .ok (.func fn first cap) w := fun _ _ _ _ => rfl
  go_enter Tryz.func41, Tryz.ntmps41
  go_wp2_with fail
  go_ret
  exact ⟨rfl, rfl⟩

/-- what the shards that are there are told from -/
def PreT (b bs bh : Nat) (As : Nat → Option Addr) (Ls Cs : Nat → Nat) (A : Option Addr) (N c : Nat) (h : Nat → Bool) (Ah : Option Addr) (Nh ch : Nat) (W : World) : Prop :=
  W.cell? ⟨bs, 0, none⟩ = some (.slice A N c) ∧ W.cell? ⟨bh, 0, none⟩ = some (.slice Ah Nh ch) ∧ Rd b W (slis As Ls Cs) A N ∧ Rd b W (bls h) Ah Nh
/-- the j-th of them -/
def PreX (h : Nat → Bool) (N j x : Nat) (_ _ : World) : Prop := x < N ∧ h x = true ∧ cntT h x = j

set_option maxRecDepth 100000 in
set_option maxHeartbeats 4000000 in
theorem pre_hand (m b bs bh : Nat) (As : Nat → Option Addr) (Ls Cs : Nat → Nat) (A : Option Addr) (N c : Nat) (h : Nat → Bool) (Ah : Option Addr) (Nh ch : Nat) (hN : N ≤ 1000000) (hNN : N ≤ Nh) (hm : 1 ≤ m) :
    Hands m Tryz.prog 75 #[.pointer (some ⟨bs, 0, none⟩), .pointer (some ⟨bh, 0, none⟩)] (fun x : Nat => #[.int .i64 x, .slice (As x) (Ls x) (Cs x)]) (cntT h N) (PreT b bs bh As Ls Cs A N c h Ah Nh ch) (PreX h N) := by
  intro lp J W hJT hJa hY h0
  have HT := Lib.hid hJT
  have HY := Lib.hid hY
  have H0 := Lib.hid h0
  clear hJT hJa hY h0
  refine callsIn_of_wp Tryz.func75 rfl trivial ?_ rfl
  simp only [Tryz.ntmps75, List.size_toArray, List.length_cons, List.length_nil, Nat.reduceAdd, Nat.reduceSub, Array.replicate_succ, Array.replicate_zero, List.push_toArray, List.append_toArray, List.nil_append, List.cons_append]
  obtain ⟨t1, t2, _, _⟩ := HT.out 0 W H0.out
  gi_wp2_with fail
  gi_loopw [8] (fun s8 wr => ∃ i : Nat, i ≤ N ∧ s8 = .int .i64 i ∧ J (cntT h i) wr) (fun s8 _ => N - (intOf s8).toNat)
  case atStart => exact ⟨0, Nat.zero_le _, rfl, H0.out⟩
  case round =>
    clear t1 t2 H0
    obtain ⟨i, hi, rfl, hJ⟩ := hrel
    have HJ := Lib.hid hJ
    clear hJ
    by_cases hlt : i < N
    · obtain ⟨u1, u2, u3, u4⟩ := HT.out _ _ HJ.out
      obtain ⟨ad, e1, c1⟩ := u3.at_ hlt
      obtain ⟨ah, e2, c2⟩ := u4.at_ (show i < Nh by omega)
      simp only [slis, bls] at c1 c2
      rw [e1] at u1 ⊢
      rw [e2] at u2
      have hltI : (i : Int) < (N : Int) := by omega
      have hltH : (i : Int) < (Nh : Int) := by omega
      obtain ⟨t, ht⟩ : ∃ t, h i = t := ⟨_, rfl⟩
      rw [ht] at c2
      clear u3 u4 e1 e2
      cases t
      · have HS := Lib.hid (show J (cntT h (i + 1)) wr by rw [cntT_no ht]; exact HJ.out)
        clear ht
        gi_wp2_with fail
        refine ⟨fun _ h5 => (by cases h5), ?_⟩
        gi_wp2_with fail
        exact ⟨⟨i + 1, hlt, by go_num, HS.out⟩, by simp [intOf]; omega⟩
      · obtain ⟨fn, tmps, assign, body, hy, hR⟩ := HY.out (cntT h i) i wr wr HJ.out (Below.refl _ _) (atT_cnt ht hlt).2 ⟨hlt, ht, rfl⟩
        have HTT := Lib.hid ht
        clear ht
        gi_wp2_with fail
        refine hR.mono ?_
        rintro e W3 ⟨rfl, hJ3⟩
        have HS := Lib.hid (show J (cntT h (i + 1)) W3 by rw [cntT_yes HTT.out]; exact hJ3)
        clear hJ3 hy hR c1 c2 u1 u2
        gi_wp2_with fail
        exact ⟨⟨i + 1, hlt, by go_num, HS.out⟩, by simp [intOf]; omega⟩
    · obtain rfl : i = N := by omega
      gi_wp2_with fail
      go_end0
      exact ⟨⟨_, rfl⟩, HJ.out⟩
end Go.Proofs.YtgdgimknnjbieaaGreatDoor

namespace Go.Proofs.YtgdgimknnjbieaaGreatDoor
open Go.RowKit Go.Shelf
attribute [local go_sem] Oper.semAt_some

/-- 's[:k]' of ints -/
theorem run_headI (A : Option Addr) (q c k : Nat) (h : k ≤ c) (w : World) : (Instr.slice TIs (.slice A q c) none (some (.int .i64 (k : Int))) none).run Tryz.prog w = .ok (.slice A k c) w := by
  have hu : Tryz.prog.underlying TIs = some (.slice (Tryz.prog.elem TIs)) := by rw [elemI]; exact Tryz.underlying53
  rw [run_slice_h w TIs A q c hu .i64 (k : Int) (by omega) (by omega), elemI, sizeI]
  cases A <;> simp [Result.andThen, sliced, Addr.add]
theorem run_headAtI (A : Option Addr) (q c k : Nat) (h : k ≤ c) (w : World) : (Instr.sliceAt TIs (.slice A q c) none (some (.int .i64 (k : Int))) none).run Tryz.prog w = .ok (.slice A k c) w := by
  have hu : Tryz.prog.underlying TIs = some (.slice (Tryz.prog.elem TIs)) := by rw [elemI]; exact Tryz.underlying53
  rw [run_sliceAt_slice w TIs _ _ _ _ hu, run_headI A q c k h]

theorem boxed_block {W W' : World} {B : Nat} {t : TypeId} {v : Value} (h : Boxed W B t v) (e : W'.heap[B]? = W.heap[B]?) : Boxed W' B t v := e.trans h
theorem boxed_put {W : World} {B r : Nat} {t : TypeId} {v : Value} {o o' : Obj} (h : Boxed W B t v) (hr : W.heap[r]? = some o) (ho : o.isCells = false) : Boxed (W.putObj r o') B t v := by
  have hne : B ≠ r := by
    rintro rfl
    have h2 : some (Obj.cells #[v] t (0, 0)) = some o := (show W.heap[B]? = _ from h).symm.trans hr
    injection h2 with h2
    rw [← h2] at ho
    cases ho
  exact (World.putObj_heap_other hne).trans h

/-- places and shards, collected in boxes -/
structure Chs (w0 : World) (gp gk bs bh : Nat) (S H : Value) (X : Nat → Value) (L : Nat → Int) (np nk : Nat) (vp vk : Value) (wr : World) : Prop where
  below : Below w0.heap.size w0 wr
  bs : Boxed wr bs TRs S
  bh : Boxed wr bh TBos H
  bp : Boxed wr gp TIs vp
  bk : Boxed wr gk TRs vk
  p : wr.ownsRow w0.heap.size TI 1 vp np ((List.range np).map (i64s L))
  k : wr.ownsRow w0.heap.size TBs 1 vk nk ((List.range nk).map X)
section
variable {w0 wr w1 : World} {gp gk bs bh np nk : Nat} {S H vp vk : Value} {X : Nat → Value} {L : Nat → Int}
theorem Chs.grow (h : Chs w0 gp gk bs bh S H X L np nk vp vk wr) (hb : Below wr.heap.size wr w1) : Chs w0 gp gk bs bh S H X L np nk vp vk w1 :=
  ⟨below_tr h.below hb, boxed_block h.bs (hb.block _ h.bs.lt), boxed_block h.bh (hb.block _ h.bh.lt), boxed_block h.bp (hb.block _ h.bp.lt), boxed_block h.bk (hb.block _ h.bk.lt), own_below' h.p hb, own_below' h.k hb⟩
theorem Chs.put {r : Nat} {o o' : Obj} (h : Chs w0 gp gk bs bh S H X L np nk vp vk wr) (h0 : w0.heap.size ≤ r) (hr : wr.heap[r]? = some o) (ho : o.isCells = false) : Chs w0 gp gk bs bh S H X L np nk vp vk (wr.putObj r o') :=
  ⟨h.below.trans (below_put h0 o'), boxed_put h.bs hr ho, boxed_put h.bh hr ho, boxed_put h.bp hr ho, boxed_put h.bk hr ho, ownsRow_putObj h.p o' hr ho, ownsRow_putObj h.k o' hr ho⟩
theorem Chs.addP {o : Obj} {vp' : Value} (h : Chs w0 gp gk bs bh S H X L np nk vp vk wr) (hg : w0.heap.size ≤ gp) (h1 : gk ≠ gp) (h2 : bs ≠ gp) (h3 : bh ≠ gp) (t1 : TIs ≠ TI) (t2 : TRs ≠ TI) (t3 : TBos ≠ TI) (t4 : TBs ≠ TI) (t5 : TIs ≠ TBs)
    (hown : w1.ownsRow w0.heap.size TI 1 vp' (np + 1) ((List.range np).map (i64s L) ++ [i64s L np])) (hgr : (wr.alloc o).grownBy w1 vp.ownBlock) :
    Boxed w1 gp TIs vp ∧ Chs w0 gp gk bs bh S H X L (np + 1) nk vp' vk (w1.setCell ⟨gp, 0, none⟩ vp') ∧ KeepsOthers wr (w1.setCell ⟨gp, 0, none⟩ vp') := by
  obtain ⟨a1, a2, a3, a4, a5⟩ := h.bp.appended t1 h.p h.below.size hg hown hgr
  have hbox : ∀ {B : Nat} {t : TypeId} {u : Value}, Boxed wr B t u → t ≠ TI → B ≠ gp → Boxed (w1.setCell ⟨gp, 0, none⟩ vp') B t u := fun hb ht hne =>
    (((hb.alloc o).kept hgr (hb.not_row ht h.p))).kept (grownBy_setCell' w1 gp vp') (fun e => hne (Option.some.inj e))
  have hk1 := keep_kind (h.p.alloc o) hgr t4 (h.k.alloc o)
  refine ⟨a1, ⟨h.below.trans a5, hbox h.bs t2 h2, hbox h.bh t3 h3, a2, hbox h.bk t2 h1, by rw [range_snoc]; exact a3, ?_⟩, a4⟩
  exact hk1.kept (grownBy_setCell' w1 gp vp') (.inr (a1.not_row t5 hk1).symm)
theorem Chs.addK {o : Obj} {vk' : Value} (h : Chs w0 gp gk bs bh S H X L np nk vp vk wr) (hg : w0.heap.size ≤ gk) (h1 : gp ≠ gk) (h2 : bs ≠ gk) (h3 : bh ≠ gk) (t1 : TRs ≠ TBs) (t2 : TIs ≠ TBs) (t3 : TBos ≠ TBs) (t4 : TI ≠ TBs) (t5 : TRs ≠ TI)
    (hown : w1.ownsRow w0.heap.size TBs 1 vk' (nk + 1) ((List.range nk).map X ++ [X nk])) (hgr : (wr.alloc o).grownBy w1 vk.ownBlock) :
    Boxed w1 gk TRs vk ∧ Chs w0 gp gk bs bh S H X L np (nk + 1) vp vk' (w1.setCell ⟨gk, 0, none⟩ vk') ∧ KeepsOthers wr (w1.setCell ⟨gk, 0, none⟩ vk') := by
  obtain ⟨a1, a2, a3, a4, a5⟩ := h.bk.appended t1 h.k h.below.size hg hown hgr
  have hbox : ∀ {B : Nat} {t : TypeId} {u : Value}, Boxed wr B t u → t ≠ TBs → B ≠ gk → Boxed (w1.setCell ⟨gk, 0, none⟩ vk') B t u := fun hb ht hne =>
    (((hb.alloc o).kept hgr (hb.not_row ht h.k))).kept (grownBy_setCell' w1 gk vk') (fun e => hne (Option.some.inj e))
  have hk1 := keep_kind (h.k.alloc o) hgr t4 (h.p.alloc o)
  refine ⟨a1, ⟨h.below.trans a5, hbox h.bs t1 h2, hbox h.bh t3 h3, hbox h.bp t2 h1, a2, ?_, by rw [range_snoc]; exact a3⟩, a4⟩
  exact hk1.kept (grownBy_setCell' w1 gk vk') (.inr (a1.not_row t5 hk1).symm)
theorem Chs.told {n c1 c2 : Nat} {A1 A2 : Option Addr} (h : Chs w0 gp gk bs bh S H X L n n (.slice A1 n c1) (.slice A2 n c2) wr) {x : Nat} (hx : x < w0.heap.size) : Rd x wr (i64s L) A1 n ∧ Rd x wr X A2 n := by
  constructor
  · obtain ⟨A, c, e, _, h5⟩ := Rd.of_own h.p hx
    injection e with e
    subst e
    exact h5
  · obtain ⟨A, c, e, _, h5⟩ := Rd.of_own h.k hx
    injection e with e
    subst e
    exact h5
end

/-- what chosen tells -/
def ChoSaid (K N : Nat) (h : Nat → Bool) (As : Nat → Option Addr) (Ls Cs : Nat → Nat) (w : World) (e : Ending) (w' : World) : Prop :=
  Below w.heap.size w w' ∧ ((cntT h N < K ∧ e = .returned (.tuple #[nilS, nilS, .int .i64 5])) ∨ (¬ cntT h N < K ∧ ¬ oneLen (cntT h N) (fun r => Ls (atT h N r)) ∧ e = .returned (.tuple #[nilS, nilS, .int .i64 1])) ∨
    (¬ cntT h N < K ∧ oneLen (cntT h N) (fun r => Ls (atT h N r)) ∧ ∃ A1 c1 A2 c2, e = .returned (.tuple #[.slice A1 K c1, .slice A2 K c2, .int .i64 0]) ∧ K ≤ c1 ∧ K ≤ c2 ∧
      ∀ x, x < w.heap.size → Rd x w' (i64s (fun r => (atT h N r : Int))) A1 K ∧ Rd x w' (slis (fun r => As (atT h N r)) (fun r => Ls (atT h N r)) (fun r => Cs (atT h N r))) A2 K))

set_option maxRecDepth 100000 in
set_option maxHeartbeats 8000000 in
theorem chosen25 (b K : Nat) (As : Nat → Option Addr) (Ls Cs : Nat → Nat) (A : Option Addr) (N c : Nat) (h : Nat → Bool) (Ah : Option Addr) (Nh ch : Nat) (hN : N ≤ 1000) (hNN : N ≤ Nh) (w : World) (h0 : b < w.heap.size)
    (hr : Rd b w (slis As Ls Cs) A N) (hh : Rd b w (bls h) Ah Nh) :
    Calls Tryz.prog 25 #[.int .i64 K, .slice A N c, .slice Ah Nh ch] w (ChoSaid K N h As Ls Cs w) := by
  obtain ⟨i0, hi, hz0, hz1, hz2⟩ := info_parts infoS
  obtain ⟨j0, hj, hy0, hy1, hy2⟩ := info_parts infoI
  have HR := Lib.hid hr
  have HH := Lib.hid hh
  have hcN := cntT_le h N
  obtain ⟨X, hX⟩ : ∃ X, slis (fun r => As (atT h N r)) (fun r => Ls (atT h N r)) (fun r => Cs (atT h N r)) = X := ⟨_, rfl⟩
  obtain ⟨L, hL⟩ : ∃ L, (fun r => (atT h N r : Int)) = L := ⟨_, rfl⟩
  have HX := Lib.hid hX
  have HL := Lib.hid hL
  obtain ⟨w2, hw2⟩ : ∃ w2, (w.alloc (.cells #[nilS] TIs)).alloc (.cells #[nilS] TRs) = w2 := ⟨_, rfl⟩
  have hs2 : w2.heap.size = w.heap.size + 2 := by rw [← hw2]; simp
  have hb2 : Below w.heap.size w w2 := by rw [← hw2]; exact (below_alloc w _).alloc (by simp) _
  have q1 : Boxed w2 w.heap.size TIs nilS := by rw [← hw2]; exact (Boxed.new w TIs nilS).alloc _
  have q2 : Boxed w2 (w.heap.size + 1) TRs nilS := by
    rw [← hw2]
    have := Boxed.new (w.alloc (.cells #[nilS] TIs)) TRs nilS
    rwa [World.size_alloc] at this
  have HB2 := Lib.hid hb2
  have HQ1 := Lib.hid q1
  have HQ2 := Lib.hid q2
  have HS2 := Lib.hid hs2
  clear hr hh hX hL hs2 hb2 q1 q2
  refine (callsIn_wide (n := 5)).1 ?_
  refine callsIn_of_wp_marks Tryz.func25 rfl trivial ?_ rfl
  simp only [Tryz.ntmps25, List.size_toArray, List.length_cons, List.length_nil, Nat.reduceAdd, Nat.reduceSub, Array.replicate_succ, Array.replicate_zero, List.push_toArray, List.append_toArray, List.nil_append, List.cons_append]
  gi_wp2_with fail
  refine ⟨trivial, (callsIn_wide.2 (present41 A N c Ah Nh ch w2)).mono ?_⟩
  rintro e w4 ⟨rfl, hw4⟩
  rw [HS2.out]
  have HC := Lib.hid (show Chs w w.heap.size (w.heap.size + 1) (w.heap.size + 2) (w.heap.size + 2 + 1) (.slice A N c) (.slice Ah Nh ch) X L 0 0 nilS nilS w4 from by
    have hb4 : Below w2.heap.size w2 w4 := by rw [← hw4]; exact (below_alloc w2 _).alloc (by simp) _
    refine ⟨below_tr HB2.out hb4, ?_, ?_, boxed_block HQ1.out (hb4.block _ HQ1.out.lt), boxed_block HQ2.out (hb4.block _ HQ2.out.lt), World.ownsRow_nil _ _ _ _, World.ownsRow_nil _ _ _ _⟩
    · rw [← hw4, ← HS2.out]
      exact (Boxed.new w2 TRs _).alloc _
    · rw [← hw4, ← HS2.out]
      have := Boxed.new (w2.alloc (.cells #[.slice A N c] TRs)) TBos (.slice Ah Nh ch)
      rwa [World.size_alloc] at this)
  have h4z : w.heap.size + 4 ≤ w4.heap.size := by rw [← hw4]; simp; have := HS2.out; omega
  clear hw4 hw2
  gi_wp2_with fail
  refine' range_law (by omega) (gf := 75) (lb := #[.pointer (some ⟨w.heap.size + 2, 0, none⟩), .pointer (some ⟨w.heap.size + 2 + 1, 0, none⟩)]) rfl (enters_of Tryz.func75 (by kernel_rfl) rfl)
    (encs := fun x : Nat => #[.int .i64 x, .slice (As x) (Ls x) (Cs x)]) (fun _ => rfl) (pre_hand 4 b (w.heap.size + 2) (w.heap.size + 2 + 1) As Ls Cs A N c h Ah Nh ch (by omega) hNN (by omega))
    (fun j W => ∃ vp vk, Chs w w.heap.size (w.heap.size + 1) (w.heap.size + 2) (w.heap.size + 2 + 1) (.slice A N c) (.slice Ah Nh ch) X L j j vp vk W)
    (fun j W hC => ?hit) (fun j X Y hC hb => ?hia) (fun j X r o o' hC hr ho hc => ?hip) (fun j x X₀ X r o o' hx ho hc => ?hxp) ⟨_, _, HC.out⟩ _ ?assign ?body ?done
  case hit =>
    obtain ⟨vp, vk, hC⟩ := hC
    exact ⟨hC.bs.cell, hC.bh.cell, HR.out.below hC.below, HH.out.below hC.below⟩
  case hia =>
    obtain ⟨vp, vk, hC⟩ := hC
    exact ⟨vp, vk, hC.grow hb⟩
  case hip =>
    obtain ⟨vp, vk, hC⟩ := hC
    exact ⟨vp, vk, hC.put (by omega) ho hc⟩
  case hxp => exact hx
  case assign =>
    intro l x W k hK
    gi_wp2_with fail
    exact hK
  case body =>
    intro l j x W0 W hI hbel hj2 hx
    obtain ⟨vp, vk, hC⟩ := hI
    have HC := Lib.hid (hC.grow hbel)
    obtain ⟨x1, x2, x3⟩ := hx
    have hat : atT h N j = x := by rw [← x3]; exact (atT_cnt x2 x1).1
    have HXI := Lib.hid (show X j = .slice (As x) (Ls x) (Cs x) by rw [← HX.out]; simp only [slis]; rw [hat])
    have HLI := Lib.hid (show i64s L j = .int .i64 (x : Int) by rw [← HL.out]; simp only [i64s]; rw [hat])
    have c1 := HC.out.bp.cell
    have hsz := HC.out.below.size
    clear hC hbel x2 x3 hat HX HL
    try dsimp only
    gi_wp2_with (gi_at_builtin; refine wpListIn_append_own _ rfl (.tmp 18) (.tmp 20) TIs rfl w.heap.size TI j0 (.int .i64 0) 1 8 underI hj hy0 hy1 hy2 rfl (by decide) _ j _ rfl (HC.out.p.alloc _) ⟨W.heap.size, 0, none⟩ 1 1 [i64s L j] rfl rfl (news_one HLI.out.symm) (one_i64 _) (by unfold maxLen; omega) (by omega) (by simp; omega) ?_)
    intro v1 w1 hown1 hgr1 _
    obtain ⟨g1, k1, rfl⟩ := ownsRow_succ hown1
    have HS1 := Lib.hid (HC.out.addP (Nat.le_refl _) (by omega) (by omega) (by omega) (by decide) (by decide) (by decide) (by decide) (by decide) hown1 hgr1)
    have c2 := HS1.out.1.cell
    have f2 := HS1.out.1.frozen
    have c3 := HS1.out.2.1.bk.cell
    have hsz1 := HS1.out.2.1.below.size
    clear hown1 hgr1 c1
    gi_wp2_with (gi_at_builtin; go_loud (refine wpListIn_append_own _ rfl (.tmp 22) (.tmp 24) TRs rfl w.heap.size TBs i0 nilS 1 24 Tryz.underlying24 hi hz0 hz1 hz2 rfl (by decide) _ j _ rfl (HS1.out.2.1.k.alloc _) ⟨w1.heap.size, 0, none⟩ 1 1 [X j] rfl rfl (by have h7 := news_one (w := w1.setCell ⟨w.heap.size, 0, none⟩ (.slice (some ⟨g1, 0, none⟩) (j + 1) k1)) (t := TBs) HXI.out.symm; simpa using h7) (fun u hu => by rw [HXI.out] at hu; exact one_slice' _ _ _ u hu) (by unfold maxLen; omega) (by omega) (by simp at hsz1 ⊢; omega) ?_))
    intro v2 w2' hown2 hgr2 _
    obtain ⟨g2, k2, rfl⟩ := ownsRow_succ hown2
    have HS2' := Lib.hid (HS1.out.2.1.addK (by omega) (by omega) (by omega) (by omega) (by decide) (by decide) (by decide) (by decide) (by decide) hown2 hgr2)
    have c4 := HS2'.out.1.cell
    have f4 := HS2'.out.1.frozen
    have HE := Lib.hid (HS1.out.2.2.trans HS2'.out.2.2)
    clear hown2 hgr2 c3 c2 f2
    gi_wp2_with fail
    exact ⟨HE.out.from _, _, _, HS2'.out.2.1⟩
  case done =>
    rintro D W hD ⟨vp, vk, hC⟩ hK
    obtain ⟨A1, c1, rfl, hc1, _⟩ := Rd.of_own hC.p h0
    obtain ⟨A2, c2, rfl, hc2, _⟩ := Rd.of_own hC.k h0
    have HC := Lib.hid hC
    have b2 := hC.bk.cell
    have HD := Lib.hid (show w.heap.size ≤ D by omega)
    have HK := Lib.hid hK
    obtain ⟨q, hq⟩ : ∃ q, cntT h N = q := ⟨_, rfl⟩
    have HQ := Lib.hid hq
    rw [hq] at hC HC hcN hc1 hc2 b2
    clear hC hq hK hD
    by_cases hf : q < K
    · have hd : decide ((q : Int) < (K : Int)) = true := by simp; omega
      have HE := Lib.hid (show ChoSaid K N h As Ls Cs w (.returned (.tuple #[nilS, nilS, .int .i64 5])) (W.putObj D (.deferred none)) from ⟨(HC.out.put (o' := .deferred none) HD.out HK.out rfl).below, Or.inl ⟨by rw [HQ.out]; exact hf, rfl⟩⟩)
      gi_wp2_with fail
      refine ⟨by simp, .inl ⟨_, _, rfl, run_takeDeferred HK.out, ?_⟩⟩
      exact ⟨_, results_tmp3 (t := 6) (u := 7) (v := 8) rfl _ _ _, HE.out⟩
    · have hd : decide ((q : Int) < (K : Int)) = false := by simp; omega
      have HAL := Lib.hid (alike44 b (fun r => As (atT h N r)) (fun r => Ls (atT h N r)) (fun r => Cs (atT h N r)) A2 q c2 (by omega) W (by rw [HX.out]; exact (HC.out.told h0).2))
      gi_wp2_with fail
      refine ⟨trivial, (callsIn_wide.2 HAL.out).mono ?_⟩
      rintro e W1 ⟨t, rfl, ht, hb1⟩
      have HC1 := Lib.hid (HC.out.grow hb1)
      have HK1 := Lib.hid (show W1.heap[D]? = some (.deferred (some [])) from (hb1.block D (Array.getElem?_eq_some_iff.1 HK.out).1).trans HK.out)
      have HT := Lib.hid ht
      have b1 := HC1.out.bp.cell
      have b3 := HC1.out.bk.cell
      clear ht hb1 HAL HC HK b2
      cases t
      · have HE := Lib.hid (show ChoSaid K N h As Ls Cs w (.returned (.tuple #[nilS, nilS, .int .i64 1])) (W1.putObj D (.deferred none)) from ⟨(HC1.out.put (o' := .deferred none) HD.out HK1.out rfl).below, Or.inr (Or.inl ⟨by rw [HQ.out]; exact hf, fun h5 => (by rw [HQ.out] at h5; have := HT.out.2 h5; cases this), rfl⟩)⟩)
        gi_wp2_with fail
        refine ⟨by simp, .inl ⟨_, _, rfl, run_takeDeferred HK1.out, ?_⟩⟩
        exact ⟨_, results_tmp3 (t := 6) (u := 7) (v := 8) rfl _ _ _, HE.out⟩
      · have HCD := Lib.hid (HC1.out.grow (Below.refl _ W1).drew)
        have HKD := Lib.hid (show W1.drew.heap[D]? = some (.deferred (some [])) from HK1.out)
        have HE := Lib.hid (show ChoSaid K N h As Ls Cs w (.returned (.tuple #[.slice A1 K c1, .slice A2 K c2, .int .i64 0])) (W1.drew.putObj D (.deferred none)) from ⟨(HCD.out.put (o' := .deferred none) HD.out HKD.out rfl).below, Or.inr (Or.inr ⟨by rw [HQ.out]; exact hf, by rw [HQ.out]; exact HT.out.1 rfl, A1, c1, A2, c2, rfl, by omega, by omega, fun x hx => by
          have h5 := (HCD.out.put (o' := .deferred none) HD.out HKD.out rfl).told hx
          rw [HX.out, HL.out]
          exact ⟨h5.1.take (by omega), h5.2.take (by omega)⟩⟩)⟩)
        have s1 := run_headI A1 q c1 K (by omega)
        have s2 := run_headAtI A1 q c1 K (by omega)
        have s3 := run_headS A2 q c2 K (by omega)
        have s4 := run_headAtS A2 q c2 K (by omega)
        gi_wp2_with fail
        refine wpIn_wide.2 ?_
        go_region
        all_goals
          gi_wp2_with fail
          refine ⟨by simp, .inl ⟨_, _, rfl, run_takeDeferred HKD.out, ?_⟩⟩
          exact ⟨_, results_tmp3 (t := 6) (u := 7) (v := 8) rfl _ _ _, HE.out⟩
end Go.Proofs.YtgdgimknnjbieaaGreatDoor

namespace Go.Proofs.YtgdgimknnjbieaaGreatDoor
open Go.RowKit

/-- what rowsOf tells: the rows of the shards at f -/
def RrwSaid (p : Int) (K M : Nat) (f : Nat → Nat) (w : World) (e : Ending) (w' : World) : Prop :=
  ∃ A c, e = .returned (.tuple #[.slice A K c, .int .i64 0]) ∧ (∀ x, x < w.heap.size → Mx x w' (ivs (selE p K M f)) (fun _ => K) A K) ∧ Below w.heap.size w w'

set_option maxRecDepth 100000 in
set_option maxHeartbeats 4000000 in
theorem rrw26 (x0 : Nat) (p : Int) (K M : Nat) (hX : mayX p K M) (f : Nat → Nat) (hf : ∀ i, i < K → f i < K + M) (B : Option Addr) (cb : Nat) (w : World) (hT : Tab w) (hr : Rd x0 w (i64s (fun r => (f r : Int))) B K) :
    Calls Tryz.prog 26 #[.agg (parA p K M), .slice B K cb] w (RrwSaid p K M f w) := by
  have sKN : side K ∧ side M ∧ side (K + M) := by
    have h1 := hX.2.1
    have h2 := hX.2.2
    have h3 := (max_pos hX.1).2
    exact ⟨⟨by omega, by omega⟩, ⟨by omega, by omega⟩, ⟨by omega, by omega⟩⟩
  have SK := Lib.hid sKN.1
  have SM := Lib.hid sKN.2.1
  have SKM := Lib.hid sKN.2.2
  obtain ⟨v, hv⟩ : ∃ v, w.alloc (.cells #[.int .i64 p, .int .i64 K, .int .i64 M] TPa) = v := ⟨_, rfl⟩
  obtain ⟨_, e0, hbv⟩ := one_box hv
  have E0 := Lib.hid e0
  have HV := Lib.hid hbv
  have HT := Lib.hid (hT.below hbv)
  have HX := Lib.hid hX
  have HFF := Lib.hid hf
  have HR := Lib.hid (hr.below hbv)
  obtain ⟨d0, d1, d2⟩ := box_three e0
  clear e0 hbv hT hX hf hr sKN
  go_enter Tryz.func26, Tryz.ntmps26
  go_wp2_with fail
  refine (par12 p K M _ HT.out).mono ?_
  rintro e w1 ⟨t, A1, c1, g1, rfl, ht, _, hx1, hg1, hb1⟩
  obtain rfl : t = true := ht.2 HX.out
  simp only [cond, errOf, if_true, Int.toNat_natCast] at hx1 ⊢
  have X1 := Lib.hid hx1
  have HG1 := Lib.hid hg1
  have H1 := Lib.hid hb1
  have HT1 := Lib.hid (HT.out.below hb1)
  obtain ⟨d0, d1, d2⟩ := box_three (kept_box E0.out hb1)
  clear ht hx1 hg1 hb1 HT
  go_wp2_with fail
  refine (pfield_yes p HX.out.1 _ HT1.out).mono ?_
  rintro e w2 ⟨b, rfl, hf2, hn2, hb2⟩
  have HL2 := Lib.hid (Live.start (show Below v.heap.size v w1 from H1.out) hf2 hn2 hb2)
  have X2 := Lib.hid (X1.out.below hb2)
  have HG2 := Lib.hid (Nat.lt_of_lt_of_le HG1.out hb2.size)
  obtain ⟨d0, d1, d2⟩ := box_three (kept_box E0.out HL2.out.2.1)
  clear hf2 hn2 hb2 X1 HG1 H1 HT1
  go_wp2_with fail
  refine (identity_yes K SK.out _).mono ?_
  rintro e w3 ⟨v3, rfl, A3, c3, rfl, _, hx3, hb3⟩
  have HL3 := Lib.hid (HL2.out.below hb3)
  have X3 := Lib.hid (X2.out.below hb3)
  have I3 := Lib.hid (hx3 g1 HG2.out)
  have HG3 := Lib.hid (Nat.lt_of_lt_of_le HG2.out hb3.size)
  clear hx3 hb3 HL2 X2 HG2 d0 d1 d2
  go_wp2_with fail
  refine (join_apart b g1 (wdP p) _ (goodP p).kind idF (ivs (rowsE p K M)) (fun _ => K) (fun _ => K) A3 A1 K M c3 c1 _ HL3.out.1.c0 HG3.out I3.out X3.out).mono ?_
  rintro e w4 ⟨t, v4, rfl, ht, hv4⟩
  obtain rfl : t = true := ht.2 ⟨idF_may (goodP p) SK.out, ivs_may _ SM.out SK.out, rfl, SKM.out.2⟩
  rw [show errOf true = 0 from rfl]
  simp only [cond] at hv4 ⊢
  rw [joinE_rows] at hv4
  obtain ⟨A4, c4, rfl, _, hx4, hb4⟩ := hv4
  have HL4 := Lib.hid (HL3.out.below hb4)
  have S4 := Lib.hid ((hx4 b HL3.out.1.lt).congr (Ls' := fun _ => K) (fun r hr => by unfold joinL; split <;> rfl) (fun _ _ _ _ => rfl))
  have R4 := Lib.hid (show Rd b w4 (i64s (fun r => (f r : Int))) B K from (HR.out.above HL4.out.2.2).below HL4.out.2.1)
  clear hx4 hb4 ht HL3 X3 I3 HG3
  have HP := Lib.hid (show pickP (Go.Proofs.YtgdgimknnjbieaaGreatDoor.M.ord (qP p).p) (K + M) (fun _ => K) (ivs (joinE K dl (rowsE p K M))) K (fun r => (f r : Int)) from ⟨ivs_may _ SKM.out SK.out, SK.out, fun r hr => by have := HFF.out r hr; dsimp only; omega⟩)
  go_wp2_with fail
  refine (pick12 b (wdP p) _ (goodP p).kind (ivs (joinE K dl (rowsE p K M))) (fun _ => K) A4 B (K + M) K c4 cb (fun r => (f r : Int)) _ HL4.out.1.c0 S4.out R4.out).mono ?_
  rintro e w5 ⟨t, v5, rfl, ht, hv5⟩
  obtain rfl : t = true := ht.2 HP.out
  rw [show errOf true = 0 from rfl]
  simp only [cond] at hv5 ⊢
  obtain ⟨A5, c5, rfl, _, hx5, hb5⟩ := hv5
  have HE := Lib.hid (show RrwSaid p K M f w (.returned (.tuple #[.slice A5 K c5, .int .i64 0])) w5 from ⟨A5, c5, rfl, fun x hx => by
    have h5 := hx5 x (Nat.lt_of_lt_of_le hx (Nat.le_trans HV.out.size HL4.out.2.1.size))
    exact h5.congr (fun _ _ => rfl) (fun r _ j _ => by unfold selE ivs; rw [Int.toNat_natCast]), below_tr HV.out (HL4.out.below hb5).2.1⟩)
  clear hx5 hb5 ht HL4 S4 R4 HP
  go_wp2_with fail
  go_ret2
  exact HE.out

/-- in Data's loop -/
def DatLp (p : Int) (K M b S : Nat) (f : Nat → Nat) (F : Nat → Nat → Nat) (w0 : World) (s14 s69 : Value) (wr : World) : Prop :=
  ∃ i : Nat, i ≤ K ∧ s69 = .int .i64 i ∧ CoS (qP p).p b (wdP p) b w0 (datF p K M f F) S i s14 wr ∧ (0 < i → S % nP p = 0)

set_option maxRecDepth 100000 in
set_option maxHeartbeats 8000000 in
theorem data11 (x0 : Nat) (p k m : Int) (As : Nat → Option Addr) (Ls Cs : Nat → Nat) (F : Nat → Nat → Nat) (hF : ∀ r j, F r j < 256) (A : Option Addr) (N c : Nat) (h : Nat → Bool) (hL : ∀ r, r < N → h r = true → Ls r ≤ 1000) (Ah : Option Addr) (Nh ch : Nat) (w : World) (hT : Tab w) (h0 : x0 < w.heap.size)
    (hr : Rd x0 w (slis As Ls Cs) A N) (hrs : ∀ r, r < N → h r = true → Rd x0 w (u8s (F r)) (As r) (Ls r)) (hh : Rd x0 w (bls h) Ah Nh) :
    Calls Tryz.prog 11 #[.agg (parA p k m), .slice A N c, .slice Ah Nh ch] w (DatSaid p k m N Nh h Ls F w) := by
  obtain ⟨i0, hi, hz0, hz1, hz2⟩ := info_parts infoS
  obtain ⟨v, hv⟩ : ∃ v, w.alloc (.cells #[.int .i64 p, .int .i64 k, .int .i64 m] TPa) = v := ⟨_, rfl⟩
  obtain ⟨_, e0, hbv⟩ := one_box hv
  have E0 := Lib.hid e0
  have HV := Lib.hid hbv
  have HT := Lib.hid (hT.below hbv)
  have HR := Lib.hid hr
  have HRS := Lib.hid hrs
  have HH := Lib.hid hh
  have HL := Lib.hid hL
  have HFF := Lib.hid hF
  obtain ⟨d0, d1, d2⟩ := box_three e0
  clear e0 hbv hr hrs hh hL hF hT
  go_enter Tryz.func11, Tryz.ntmps11
  go_wp2_with fail
  refine (count24 p k m N _ HT.out).mono ?_
  rintro e w1 ⟨t, rfl, ht, hb1⟩
  have V1 := Lib.hid (show Below v.heap.size v w1 from hb1)
  have HT1 := Lib.hid (HT.out.below hb1)
  have HM := Lib.hid ht
  clear hb1 d0 d1 d2 ht HT
  obtain ⟨d0, d1, d2⟩ := box_three (kept_box E0.out V1.out)
  cases t
  · have HE := Lib.hid (DatSaid.no (F := F) (datE_arg (Ls := Ls) (Nh := Nh) (h := h) (N := N) (p := p) (k := k) (m := m) (fun h => by have := HM.out.2 ⟨h.1, h.2.1⟩; cases this)) (by decide) (below_tr HV.out V1.out))
    go_wp2_with fail
    go_ret2
    exact HE.out
  have HP := Lib.hid (HM.out.1 rfl)
  clear HM
  go_wp2_with fail
  refine (count24 p k m Nh _ HT1.out).mono ?_
  rintro e w2 ⟨t, rfl, ht, hb2⟩
  have V2 := Lib.hid (below_tr V1.out hb2)
  have HT2 := Lib.hid (HT1.out.below hb2)
  have HM := Lib.hid ht
  clear hb2 d0 d1 d2 ht HT1 V1
  obtain ⟨d0, d1, d2⟩ := box_three (kept_box E0.out V2.out)
  cases t
  · have HE := Lib.hid (DatSaid.no (F := F) (datE_arg (Ls := Ls) (Nh := Nh) (h := h) (N := N) (p := p) (k := k) (m := m) (fun h => by have := HM.out.2 ⟨h.1, by rw [h.2.2]; exact h.2.1⟩; cases this)) (by decide) (below_tr HV.out V2.out))
    go_wp2_with fail
    go_ret2
    exact HE.out
  obtain rfl : Nh = N := by have h1 := (HM.out.1 rfl).2; have h2 := HP.out.2; omega
  obtain ⟨K, rfl⟩ : ∃ K : Nat, k = K := ⟨k.toNat, by have := HP.out.1.2.1; omega⟩
  obtain ⟨M, rfl⟩ : ∃ M : Nat, m = M := ⟨m.toNat, by have := HP.out.1.2.2.1; omega⟩
  have hK := HP.out.1.2.1
  have hM : 1 ≤ M ∧ M ≤ 4 := by have := HP.out.1.2.2; have := (max_pos HP.out.1.1).2; omega
  have hN12 : Nh ≤ 12 := by have := HP.out.2; omega
  have HNK := Lib.hid (show Nh = K + M by have := HP.out.2; omega)
  have HARG := Lib.hid (show mayX p K M ∧ (Nh : Int) = (K : Int) + (M : Int) from ⟨HP.out.1, HP.out.2⟩)
  have HX := Lib.hid HP.out.1
  have hv1 := HV.out.size
  have hv2 := V2.out.size
  clear HM HP
  go_wp2_with fail
  refine (chosen25 x0 K As Ls Cs A Nh c h Ah Nh ch (by omega) (Nat.le_refl _) _ (by omega) (HR.out.below (below_tr HV.out V2.out)) (HH.out.below (below_tr HV.out V2.out))).mono ?_
  rintro e w3 ⟨hb3, hcase⟩
  have V3 := Lib.hid (below_tr V2.out hb3)
  have HT3 := Lib.hid (HT2.out.below hb3)
  clear hb3 d0 d1 d2 HT2 V2
  obtain ⟨d0, d1, d2⟩ := box_three (kept_box E0.out V3.out)
  rcases hcase with ⟨hf, rfl⟩ | ⟨hf, hal, rfl⟩ | ⟨hf, hal, A1, c1, A2, c2, rfl, hc1, hc2, hx3⟩
  · have HE := Lib.hid (DatSaid.no (F := F) (datE_few (Nh := Nh) (Ls := Ls) ⟨HARG.out.1, HARG.out.2, rfl⟩ (by rw [Int.toNat_natCast]; exact hf)) (by decide) (below_tr HV.out V3.out))
    clear hf
    go_wp2_with fail
    go_ret2
    exact HE.out
  · have HE := Lib.hid (DatSaid.no (F := F) (datE_odd (k := (K : Int)) (m := (M : Int)) (Nh := Nh) (p := p) (Ls := Ls) (by rw [Int.toNat_natCast]; exact hf) (fun h5 => hal (fun r hr => (h5 r hr).1))) (by decide) (below_tr HV.out V3.out))
    clear hf hal
    go_wp2_with fail
    go_ret2
    exact HE.out
  have hcN := cntT_le h Nh
  have HCN := Lib.hid (show K ≤ cntT h Nh by omega)
  have HAL := Lib.hid hal
  have HX3 := Lib.hid hx3
  have HAT := Lib.hid (show ∀ r, r < K → atT h Nh r < Nh ∧ h (atT h Nh r) = true from fun r hr => by have h5 := atT_spec (h := h) (r := r) Nh (by omega); exact ⟨h5.1, h5.2.1⟩)
  have HFN := Lib.hid hf
  clear hf hal hx3 hcN
  go_wp2_with fail
  refine (rrw26 0 p K M HX.out (atT h Nh) (fun i hi => by have h5 := (HAT.out i hi).1; have := HNK.out; omega) A1 c1 _ HT3.out (HX3.out 0 (by omega)).1).mono ?_
  rintro e w4 ⟨A4, c4, rfl, hx4, hb4⟩
  have V4 := Lib.hid (below_tr V3.out hb4)
  have HT4 := Lib.hid (HT3.out.below hb4)
  have HX4 := Lib.hid (hx4 0 HT3.out.lt)
  have HK4 := Lib.hid (fun x hx => ((HX3.out x hx).2).below hb4)
  clear hb4 hx4 d0 d1 d2 HT3 V3 HX3
  obtain ⟨d0, d1, d2⟩ := box_three (kept_box E0.out V4.out)
  go_wp2_with fail
  refine (pfield_yes p HX.out.1 _ HT4.out).mono ?_
  rintro e w5 ⟨b, rfl, hf5, hn5, hb5⟩
  have HL5 := Lib.hid (Live.start (show Below v.heap.size v w4 from V4.out) hf5 hn5 hb5)
  have M5 := Lib.hid ((HX4.out.above hn5).below hb5)
  have HR5 := Lib.hid (show Rd b w5 (slis (fun r => As (atT h Nh r)) (fun r => Ls (atT h Nh r)) (fun r => Cs (atT h Nh r))) A2 K from ((HK4.out 0 (by omega)).above hn5).below hb5)
  clear hf5 hn5 hb5 d0 d1 d2 HX4 HK4 HT4 V4
  obtain ⟨d0, d1, d2⟩ := box_three (kept_box E0.out HL5.out.2.1)
  go_wp2_with fail
  refine (inverse12 (qP p) b (wdP p) K (fun _ => K) _ A4 c4 _ HL5.out.1 M5.out).mono ?_
  rintro e w6 ⟨s6, t6, A6, c6, rfl, hs, ht, _, hx6, hf6, ht6⟩
  have sK : side K := ⟨by omega, by omega⟩
  obtain rfl : s6 = true := hs.2 ⟨ivs_may _ sK sK, rfl⟩
  rw [elM_ivs] at ht hx6
  obtain rfl : t6 = true := (ht rfl).2 (by have h5 := sel_full (h := h) HX.out (by rw [← HNK.out]; exact HCN.out); rwa [← HNK.out] at h5)
  rw [show err2 true true = 0 from rfl]
  have HL6 := Lib.hid (HL5.out.next hf6 ht6)
  have M6 := Lib.hid (show Mx b w6 (ivs (ivm K (selE p K M (atT h Nh)))) (fun _ => K) A6 K from hx6)
  have HR6 := Lib.hid (HR5.out.turned ht6)
  clear d0 d1 d2
  obtain ⟨d0, d1, d2⟩ := box_three (kept_box E0.out HL6.out.2.1)
  clear hs ht hf6 ht6 hx6 HL5 M5 HR5
  have hmk := make_roomR K (by omega)
  obtain ⟨S, hS⟩ : ∃ S, Ls (atT h Nh 0) = S := ⟨_, rfl⟩
  have HS := Lib.hid hS
  have hLS : ∀ r, r < K → Ls (atT h Nh r) = S := fun r hr => by rw [← hS]; exact HAL.out r (by have := HCN.out; omega)
  have HLS := Lib.hid hLS
  have hS2 : S ≤ 1000 := by rw [← hS]; exact HL.out _ (HAT.out 0 (by omega)).1 (HAT.out 0 (by omega)).2
  have HRR := Lib.hid (show ∀ r, r < K → Rd b w6 (u8s (F (atT h Nh r))) (As (atT h Nh r)) S from fun r hr => by
    have h5 := HAT.out r hr
    have h6 := ((HRS.out _ h5.1 h5.2).above (b := b) (Nat.le_trans hv1 HL6.out.2.2)).below (below_tr HV.out HL6.out.2.1)
    rwa [hLS r hr] at h6)
  have HR6' := Lib.hid (show Rd b w6 (slis (fun r => As (atT h Nh r)) (fun _ => S) (fun r => Cs (atT h Nh r))) A2 K from HR6.out.congr (fun r hr => by simp only [slis]; rw [hLS r hr]))
  have HODD := Lib.hid (show ∀ w', Below w.heap.size w w' → S % nP p ≠ 0 → DatSaid p K M Nh Nh h Ls F w (.returned (.tuple #[nilS, .int .i64 1])) w' from fun w' hb h5 => DatSaid.no (datE_odd (k := (K : Int)) (m := (M : Int)) (Nh := Nh) (p := p) (Ls := Ls) (by rw [Int.toNat_natCast]; exact HFN.out) (fun h6 => h5 (by have h7 := (h6 0 (by have := HCN.out; omega)).2; dsimp only at h7; rwa [hS] at h7))) (by decide) hb)
  have HYES := Lib.hid (show ∀ v' w', S % nP p = 0 → RowsTold K (datF p K M (atT h Nh) F) (fun _ => S) w v' w' → DatSaid p K M Nh Nh h Ls F w (.returned (.tuple #[v', .int .i64 0])) w' from fun v' w' h5 h6 => DatSaid.yes (datE_ok ⟨HARG.out.1, HARG.out.2, rfl⟩ (by rw [Int.toNat_natCast]; exact HFN.out) (fun r hr => ⟨HAL.out r hr, by have h7 := HAL.out r hr; dsimp only at h7 ⊢; rw [h7, hS]; exact h5⟩)) (by rw [hS]; exact h6))
  have hbl := HL6.out.1.lt
  have hwb : w.heap.size ≤ b := Nat.le_trans hv1 HL6.out.2.2
  have HW6 := Lib.hid (below_tr HV.out HL6.out.2.1)
  have HF6 := Lib.hid HL6.out.1
  clear hS hLS HR6 HRS HR HH HL HAL
  obtain ⟨f, hf⟩ : ∃ f, atT h Nh = f := ⟨_, rfl⟩
  rw [hf] at M6 HRR HR6' HYES
  have HMF := Lib.hid (show ∀ r j, F (f r) j < 256 from fun r j => HFF.out _ j)
  clear hf
  obtain ⟨w7, hw7⟩ : ∃ w7, w6.alloc (.cells (madeCells #[nilS] K) TBs) = w7 := ⟨_, rfl⟩
  have HC7 := Lib.hid (show CoS (qP p).p b (wdP p) b w6 (datF p K M f F) S 0 (.slice (some ⟨w6.heap.size, 0, none⟩) 0 K) w7 from by rw [← hw7]; exact CoS.start HF6.out _ _ (by unfold maxLen; omega) (size_madeCells _ _))
  have h60 : 0 < w6.heap.size := by omega
  go_wp2_with fail
  clear hw7 hmk d0 d1 d2
  go_loopw [14, 69] (fun s14 s69 wr => DatLp p K M b S f F w6 s14 s69 wr) (fun _ s69 _ => K - (intOf s69).toNat)
  case atStart => exact ⟨0, Nat.zero_le _, rfl, HC7.out, fun h => absurd h (by omega)⟩
  case round =>
    clear HC7
    obtain ⟨i, hiK, rfl, hcs, hev⟩ := hrel
    have HCS := Lib.hid hcs
    have HEV := Lib.hid hev
    have hzr := hcs.same.size
    clear hcs hev
    by_cases hlt : i < K
    · obtain ⟨Bs, Ds, m1, m2⟩ := M6.out
      obtain ⟨ad, e9, q1⟩ := (rd_turn2 m1 m1 m1 HCS.out.same).at_ hlt
      have HB := Lib.hid (m2 i hlt)
      subst e9
      simp only [slis] at q1
      clear m1 m2
      have HC := Lib.hid (dot_any (qP p).p b (wdP p) (nP p) (wideP p) (fun c => ivs (ivm K (selE p K M f)) i c) (fun r => F (f r)) HMF.out (Bs i) K K (Ds i) c2 (by omega) (fun r => As (f r)) (fun _ => S) (fun r => Cs (f r)) A2 (fun _ _ => hS2) wr HCS.out.fld
        (rd_turn2 HB.out HB.out HB.out HCS.out.same) (rd_turn2 HR6'.out HR6'.out HR6'.out HCS.out.same) hc2 (fun r hr => rd_turn2 (HRR.out r hr) (HRR.out r hr) (HRR.out r hr) HCS.out.same))
      go_wp2_with fail
      refine HC.out.mono ?_
      rintro e w8 ⟨t, A8, c8, rfl, ht, _, hf8, ht8, hcap, hall⟩
      have HC8 := Lib.hid (HCS.out.turn hbl hf8 ht8)
      cases t
      · have HE := Lib.hid (HODD.out w8 (HW6.out.trans (HC8.out.same.below hwb hwb HW6.out.size)) (fun h5 => by
          have := ht.2 ⟨rfl, by omega, fun r _ => ⟨inB_iff.2 (ivs_in _ i r), h5, rfl⟩⟩
          cases this))
        rw [show errOf false = 1 from rfl]
        clear ht hf8 ht8 hall HC
        go_wp2_with fail
        go_ret2
        exact HE.out
      · have HOK := Lib.hid (show S % nP p = 0 from ((ht.1 rfl).2.2 0 (by omega)).2.1)
        simp only [cond_true] at hall hcap ⊢
        have HCAP := Lib.hid hcap
        clear hcap
        rw [show errOf true = 0 from rfl]
        obtain ⟨hcf, hcsm, Qs, Es, hown, hrow⟩ := HC8.out
        have HOWN := Lib.hid hown
        have HROW := Lib.hid hrow
        have HCF := Lib.hid hcf
        have HSM := Lib.hid hcsm
        have HRY := Lib.hid (show ∀ x, (x < w6.heap.size ∨ u14.ownBlock = some x) → Rd x w8 (u8s (datF p K M f F i)) A8 S from fun x hx => by
          have e : datF p K M f F i = dotB (qP p).p (nP p) (fun c => ivs (ivm K (selE p K M f)) i c) (fun r => F (f r)) K := rfl
          rw [e]
          refine hall x ?_
          rcases hx with hx | hx
          · exact Nat.lt_of_lt_of_le hx hzr
          · obtain ⟨_, _, h5, _⟩ := HCS.out.list
            exact (h5.lt x hx).2)
        have hsz8 := hcsm.size
        clear ht hf8 ht8 hall HC hown hrow hcf hcsm HCS
        go_wp2_with (at_builtin; refine wpList_append_lies _ rfl _ _ TRs rfl w6.heap.size TBs i0 nilS 1 24 Tryz.underlying24 hi hz0 hz1 hz2 rfl (by decide) _ i _ rfl (HOWN.out.alloc _) ⟨w8.heap.size, 0, none⟩ 1 1 [.slice A8 S c8] rfl rfl (news_one rfl) (one_slice' _ _ _) (by omega) (by unfold maxLen; omega) (by omega) (by simp; omega) _ rfl ?_)
        intro g' cap' w9 hown2 hgr2 hg2 _
        have HS9 := Lib.hid (CoS.step (F := datF p K M f F) (S := S) HCF.out HSM.out h60 HOWN.out HROW.out ⟨HCAP.out, HRY.out⟩ hown2 hgr2 hg2 (by decide) (by decide))
        clear hown2 hgr2 hg2
        go_wp2_with fail
        exact ⟨⟨i + 1, hlt, by go_num, HS9.out, fun _ => HOK.out⟩, by simp [intOf]; omega⟩
    · obtain rfl : i = K := by omega
      have HQ := Lib.hid (fun v' (h5 : CoS (qP p).p b (wdP p) b w6 (datF p i M f F) S i v' wr) => HYES.out v' wr (HEV.out (by omega)) (h5.told h60 HW6.out.size (HW6.out.trans (h5.same.below hwb hwb HW6.out.size))))
      go_wp2_with fail
      go_ret2
      exact HQ.out _ HCS.out
end Go.Proofs.YtgdgimknnjbieaaGreatDoor
