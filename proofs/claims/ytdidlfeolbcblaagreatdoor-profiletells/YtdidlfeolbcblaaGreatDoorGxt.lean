/- The contracts of package cauchy: moveOn, haveInverse. A law of a range over a function whose body may return; the contracts of package cauchy's choices and haveInverse. The contract of package cauchy's Safe. -/
import Derived.Test.YtdidlfeolbcblaaGreatDoorGxs
import Derived.Laws.CopyRow
import Derived.Deep.RegionLaw
import Derived.Deep.Cut
import Derived.Deep.CutRange

namespace Go.Proofs.YtdidlfeolbcblaaGreatDoor
open Go.RowKit

/-- a row is written over from place off on -/
def over (off : Nat) (f h : Nat → Value) (j : Nat) : Value := if j < off then f j else h (j - off)
/-- copy, into a row that is known whole, as one step of a region that draws -/
theorem step_copy_over {ops : Array Oper} {o : Oper} {a : Act} {w : World} {K : Act → World → Prop} {Q : Exit → Act → World → Prop} {E : Prop} (hgd : o.guard = none) (d s : Operand)
    (ho : o.op = .call { callee := .builtin .copy, args := #[d, s], argTypes := #[TIs, TIs] }) (g off n dCap g2 sCap k : Nat) (hd : a.eval d = .slice (some ⟨g, off, none⟩) n dCap) (hs : a.eval s = .slice (some ⟨g2, 0, none⟩) n sCap)
    (f h : Nat → Value) (hrow : w.rowIs g TI k f) (hsrc : w.rowIs g2 TI n h) (hone : ∀ j, (h j).oneCell' = true) (hoff : off + n = k)
    (hK : ∀ w', w'.rowIs g TI k (over off f h) → Turned g w w' → K (a.put o.dst (goInt n)) w') :
    if Region.wanted o (yielded ops a.tmps) = true then Oper.wp Tryz.prog o a w K Q else E := by
  have hw : Region.wanted o (yielded ops a.tmps) = true := by simp [Region.wanted, hgd]
  rw [if_pos hw]
  obtain ⟨c, hc1, hc2, hc3⟩ := hrow
  have hsz : (Tryz.prog.info? TI).map (·.size) = some 1 := by kernel_rfl
  have hlen : ((List.range n).map h).length = n := by simp
  have hrun := run_copy_row (P := Tryz.prog) w TIs TIs o.type TI g off n dCap ⟨g2, 0, none⟩ n sCap c TI ((List.range n).map h) underI hsz hc1 (by simp) (fun j v hj => by
    have hjn : j < n := by
      rcases Nat.lt_or_ge j n with e | e
      · exact e
      · rw [List.getElem?_eq_none (by simp; omega)] at hj
        cases hj
    rw [List.getElem?_map, List.getElem?_range hjn] at hj
    simp at hj
    subst hj
    have := hsrc.cell hjn
    rw [show (⟨g2, 0, none⟩ : Addr).add j = ⟨g2, j, none⟩ by unfold Addr.add; split <;> simp_all]
    exact this) (by rw [hlen]; omega) (fun v hv => by
    obtain ⟨j, _, rfl⟩ := List.mem_map.1 hv
    exact hone j)
  rw [hlen] at hrun
  unfold Oper.wp
  simp [execOp, ho, resolve, invoke, builtin, hd, hs, hrun, Result.andThen]
  have hdrop : List.drop (off + n) c.toList = [] := List.drop_eq_nil_of_le (by simp; omega)
  refine hK (w.setRow g (c.toList.take off ++ ((List.range n).map h ++ c.toList.drop (off + n))).toArray) ?_ ?_
  · refine ⟨_, setRow_heap w g _ _ TI _ hc1, ?_, fun i hi => ?_⟩
    · simp
      omega
    · rw [List.getElem?_toArray, hdrop, List.append_nil, List.getElem?_append]
      have htl : (c.toList.take off).length = off := by simp; omega
      unfold over
      by_cases e : i < off
      · rw [if_pos (by omega), if_pos e, List.getElem?_take, if_pos e, Array.getElem?_toList]
        exact hc3 i hi
      · rw [if_neg (by omega), if_neg e, htl, List.getElem?_map, List.getElem?_range (by omega)]
        rfl
  · exact ⟨rfl, rfl, rfl, by simp [World.setRow], fun q _ hq => setRow_other w g q _ (by omega)⟩

/-- a choice of rows, as it lies there -/
def chs (l : Nat → Nat) (j : Nat) : Value := .int .i64 ((l j : Nat) : Int)
/-- what moveOn tells -/
def MoveSaid (k n g : Nat) (l : Nat → Nat) (w : World) (e : Ending) (w' : World) : Prop :=
  (∃ i, MovesAt k n l i ∧ e = .returned (.bool true) ∧ w'.rowIs g TI k (chs (nxt l i)) ∧ Turned g w w') ∨ ((∀ r, r < k → n + r ≤ l r + k) ∧ e = .returned (.bool false) ∧ w = w')
theorem over_nxt {l : Nat → Nat} {i : Nat} (j : Nat) : over i (chs l) (i64s (frm (l i + 1))) j = chs (nxt l i) j := by
  unfold over chs i64s frm nxt
  split <;> rfl
/-- in moveOn's loop: none behind place i can move -/
def MvAt (k n : Nat) (l : Nat → Nat) (s5 : Value) : Prop := ∃ i : Nat, i ≤ k ∧ s5 = .int .i64 ((i : Int) - 1) ∧ ∀ r, i ≤ r → r < k → n + r ≤ l r + k

set_option maxRecDepth 100000 in
set_option maxHeartbeats 2000000 in
theorem moveOn53 (k n g : Nat) (l : Nat → Nat) (hk : 1 ≤ k) (hkn : k ≤ n) (hn : n ≤ 40) (hR : Rise k n l) (w : World) (hr : w.rowIs g TI k (chs l)) :
    Calls Tryz.prog 73 #[.slice (some ⟨g, 0, none⟩) k k, .int .i64 n] w (MoveSaid k n g l w) := by
  have HR := Lib.hid hr
  have HRI := Lib.hid hR
  clear hr hR
  go_enter Tryz.func73, Tryz.ntmps73
  go_wp2_with fail
  go_loop [5] (fun s5 => MvAt k n l s5) (fun s5 => (intOf s5 + 1).toNat)
  case atStart => exact ⟨k, Nat.le_refl _, rfl, fun r h1 h2 => absurd h1 (by omega)⟩
  case round =>
    obtain ⟨i, hi, rfl, hlast⟩ := hrel
    have HL := Lib.hid hlast
    clear hlast
    by_cases hz : i = 0
    · subst hz
      have HE := Lib.hid (show MoveSaid k n g l w (.returned (.bool false)) w from Or.inr ⟨fun r hr => HL.out r (Nat.zero_le _) hr, rfl, rfl⟩)
      go_wp2_with fail
      go_ret
      exact HE.out
    · obtain ⟨i, rfl⟩ : ∃ i', i = i' + 1 := ⟨i - 1, by omega⟩
      have hlt : i < k := by omega
      have e1 : (((i + 1 : Nat) : Int) - 1) = (i : Int) := by omega
      rw [e1]
      have hc := HR.out.cell hlt
      simp only [chs] at hc
      have hln := HRI.out.1 i hlt
      obtain ⟨x, hx⟩ : ∃ x, l i = x := ⟨_, rfl⟩
      have HX := Lib.hid hx
      rw [hx] at hc hln
      by_cases hmv : x + k < n + i
      · have hM : MovesAt k n l i := ⟨hlt, by rw [hx]; exact hmv, fun r h1 h2 => HL.out r (by omega) h2⟩
        have HM := Lib.hid hM
        have hcut := run_fromI g k k i (by omega) hlt
        have hcutA := run_atI g k k i (by omega) hlt
        have hgl := HR.out.lt
        have HT := Lib.hid (show Turned g w w.drew from (Turned.refl g w).drew)
        have d1 : decide ((x : Int) < (n : Int) - 1 - ((k : Int) - 1 - (i : Int))) = true := by simp; omega
        obtain ⟨D, hD⟩ : ∃ D : Nat, k - i = D := ⟨_, rfl⟩
        have HFR := Lib.hid (show ∀ w, Calls Tryz.prog 54 #[.int .i64 (IntKind.i64.wrap ((x : Int) + 1)), .int .i64 (IntKind.i64.wrap ((k : Int) - 1 - (i : Int) + 1))] w (RowMade D (frm (x + 1)) w) from fun w => by
          rw [show IntKind.i64.wrap ((x : Int) + 1) = ((x + 1 : Nat) : Int) by rw [IntKind.wrap_i64]; omega, show IntKind.i64.wrap ((k : Int) - 1 - (i : Int) + 1) = ((D : Nat) : Int) by rw [IntKind.wrap_i64]; omega]
          exact from29 (x + 1) D (by omega) (by omega) w)
        rw [hD] at hcut hcutA
        have HDk := Lib.hid (show i + D = k by omega)
        clear hM hx hD e1
        go_wp2_with fail
        go_region_law (first
            | (refine step_copy_over rfl (.tmp 30) (.tmp 38) rfl g i D D w.heap.size D k (by first | rfl | simp [Act.eval]) (by first | rfl | simp [Act.eval]) (chs l) (i64s (frm (x + 1))) (HR.out.of_block (hb1.block _ hgl)) hr1 (fun _ => rfl) HDk.out ?_; intro w2 hr2 ht2; have HT2 := Lib.hid (show Turned g w w2 from HT1.out.trans ht2))
            | (go_simp; go_at_call 54; refine (HFR.out _).mono ?_; rintro e w1 ⟨rfl, hr1, hb1⟩; have HT1 := Lib.hid (show Turned g w w1 from HT.out.trans (Turned.of_below hb1))))
        have HE := Lib.hid (show MoveSaid k n g l w (.returned (.bool true)) w2 from Or.inl ⟨i, HM.out, rfl, hr2.congr (fun j _ => by rw [← HX.out]; exact over_nxt j), HT2.out⟩)
        clear hr1 hb1 hr2 ht2 HT1 HT2
        go_wp2_with fail
        go_ret
        exact HE.out
      · have d1 : decide ((x : Int) < (n : Int) - 1 - ((k : Int) - 1 - (i : Int))) = false := by simp; omega
        have HS := Lib.hid (show MvAt k n l (.int .i64 ((i : Int) - 1)) from ⟨i, by omega, rfl, fun r h1 h2 => by
          by_cases e : r = i
          · subst e; rw [HX.out]; omega
          · exact HL.out r (by omega) h2⟩)
        clear hx
        go_wp2_with fail
        exact ⟨HS.out, by simp [intOf] <;> omega⟩
end Go.Proofs.YtdidlfeolbcblaaGreatDoor

namespace Go.Proofs.YtdidlfeolbcblaaGreatDoor
open Go.RowKit Go.Shelf
attribute [local go_sem] Oper.semAt_some

/-- what lies from block B on lies as it lay -/
structure KeptFrom (B : Nat) (W W' : World) : Prop where
  size : W.heap.size ≤ W'.heap.size
  block : ∀ k, B ≤ k → k < W.heap.size → W'.heap[k]? = W.heap[k]?
theorem KeptFrom.refl (B : Nat) (W : World) : KeptFrom B W W := ⟨Nat.le_refl _, fun _ _ _ => rfl⟩
theorem KeptFrom.trans {B : Nat} {X Y Z : World} (h : KeptFrom B X Y) (k : KeptFrom B Y Z) : KeptFrom B X Z := ⟨Nat.le_trans h.size k.size, fun i hB hi => (k.block i hB (Nat.lt_of_lt_of_le hi h.size)).trans (h.block i hB hi)⟩
theorem KeptFrom.of_turned {B b : Nat} {W W' : World} (h : Turned b W W') (hb : b < B) : KeptFrom B W W' := ⟨h.size, fun k hk hl => h.block k hl (by omega)⟩
theorem KeptFrom.setCell {B : Nat} {W W' : World} (h : KeptFrom B W W') {g i : Nat} (hg : g < B) (v : Value) : KeptFrom B W (W'.setCell ⟨g, i, none⟩ v) :=
  ⟨by simpa [World.setCell] using h.size, fun k hk hl => by
    rw [← h.block k hk hl]
    simp only [World.setCell, Array.getElem?_modify]
    rw [if_neg (by omega)]⟩
/-- a block that an iterator may write, or the law itself: an int's row, or no cells at all -/
def SoftAt (A : World) (k : Nat) : Prop := ∃ o, A.heap[k]? = some o ∧ (o.isCells = false ∨ ∃ cs fr, o = .cells cs TI fr)
/-- nothing has turned but, from block B on, blocks that may -/
structure Soft (B : Nat) (A A' : World) : Prop where
  low : Below 0 A A'
  block : ∀ k, k < A.heap.size → A'.heap[k]? = A.heap[k]? ∨ (B ≤ k ∧ SoftAt A k)
theorem Soft.at_ {B : Nat} {A A' : World} (h : Soft B A A') {k : Nat} (hk : k < B) (hs : k < A.heap.size) : A'.heap[k]? = A.heap[k]? := by
  rcases h.block k hs with e | e
  · exact e
  · omega
theorem Soft.of_below {B : Nat} {A A' : World} (h : Below A.heap.size A A') : Soft B A A' := ⟨h.mono (Nat.zero_le _), fun k hk => Or.inl (h.block k hk)⟩
theorem Soft.of_turned {B g k : Nat} {A A' : World} {f : Nat → Value} (h : Turned g A A') (hg : B ≤ g) (hr : A.rowIs g TI k f) : Soft B A A' := ⟨⟨h.os, h.tape, h.output, h.size, fun _ hk => absurd hk (by omega)⟩, fun q hq => by
  by_cases e : q = g
  · subst e
    obtain ⟨c, hc, _⟩ := hr
    exact Or.inr ⟨hg, _, hc, Or.inr ⟨_, _, rfl⟩⟩
  · exact Or.inl (h.block q hq e)⟩
theorem Soft.put {B r : Nat} {A : World} {o : Obj} (hr : B ≤ r) (ho : A.heap[r]? = some o) (hc : o.isCells = false) (o' : Obj) : Soft B A (A.putObj r o') := ⟨⟨rfl, rfl, rfl, by simp, fun _ hk => absurd hk (by omega)⟩, fun q _ => by
  by_cases e : q = r
  · subst e
    exact Or.inr ⟨hr, _, ho, Or.inl hc⟩
  · exact Or.inl (World.putObj_heap_other e)⟩
theorem Soft.mono {B B' : Nat} {A A' : World} (h : Soft B A A') (hb : B' ≤ B) : Soft B' A A' := ⟨h.low, fun k hk => (h.block k hk).imp id (fun e => ⟨by omega, e.2⟩)⟩
theorem Soft.row {B : Nat} {A A' : World} (h : Soft B A A') {g t n : Nat} {f : Nat → Value} (hr : A.rowIs g t n f) (ht : t ≠ TI) : A'.rowIs g t n f := by
  rcases h.block g hr.lt with e | ⟨_, o, ho, hc⟩
  · exact hr.of_block e
  · obtain ⟨c, h1, _⟩ := hr
    rw [h1] at ho
    injection ho with ho
    subst ho
    rcases hc with hc | ⟨cs, fr, hc⟩
    · cases hc
    · injection hc with _ e
      exact absurd e ht
theorem Soft.fld {B p b wd : Nat} {A A' : World} (h : Soft B A A') (hf : Fld p b wd A) : Fld p b wd A' := by
  refine ⟨hf.1, ?_⟩
  rcases hf.2 with hr | ⟨g, l, g1, g2, h1, h2, h3⟩
  · exact Or.inl (h.row (show A.rowIs b TF 7 _ from hr) (by decide))
  · exact Or.inr ⟨g, l, g1, g2, h.row h1 (by decide), h.row h2 (by decide), h.row h3 (by decide)⟩
theorem Soft.turned {B b : Nat} {w A A' : World} (h : Soft B A A') (ht : Turned b w A) (hB : w.heap.size ≤ B) : Turned b w A' :=
  ⟨h.low.os.trans ht.os, h.low.tape.trans ht.tape, h.low.output.trans ht.output, Nat.le_trans ht.size h.low.size, fun k hk hb => (h.at_ (Nat.lt_of_lt_of_le hk hB) (Nat.lt_of_lt_of_le hk ht.size)).trans (ht.block k hk hb)⟩
theorem below_put {n r : Nat} {W : World} (hr : n ≤ r) (o : Obj) : Below n W (W.putObj r o) := ⟨rfl, rfl, rfl, by simp, fun k hk => World.putObj_heap_other (by omega)⟩
theorem Rd.put {b r : Nat} {W : World} {o o' : Obj} {K : Nat → Value} {A : Option Addr} {n : Nat} (h : Rd b W K A n) (ho : W.heap[r]? = some o) (hc : o.isCells = false) : Rd b (W.putObj r o') K A n := fun hn => by
  obtain ⟨ad, h1, h2, h3, h4⟩ := h hn
  have hne : ad.block ≠ r := fun e => by
    have h5 := h4 0 hn
    rw [show ad.add 0 = ad by simp [Addr.add]] at h5
    subst e
    unfold World.cell? at h5
    rw [ho] at h5
    cases o <;> simp_all [Obj.isCells]
  exact ⟨ad, h1, h2, by simpa using h3, fun j hj => by
    rw [← h4 j hj]
    have hb : (ad.add j).block = ad.block := block_of_add ad j
    unfold World.cell?
    rw [hb, World.putObj_heap_other hne]⟩

/-- what an iterator owes that hands over one thing behind the other, from s0 on, as long as it is asked to -/
def HandsL (n : Nat) (P : Program) (gf : Nat) (lb : Array Value) {α σ : Type} (encs : α → Array Value) (T : World → Prop) (X : σ → α → World → Prop) (s0 : σ) (nx : σ → σ → Prop) (fin : σ → Prop) : Prop :=
  ∀ (l : Nat) (J Jm : σ → World → Prop) (Jx : World → Prop) (W : World), (∀ s A, J s A → T A) → (∀ s A, Jm s A → T A) → (∀ s A B, J s A → Soft W.heap.size A B → J s B) → (∀ s s' A B, Jm s A → nx s s' → Soft W.heap.size A B → J s' B) →
    (∀ s x A, J s A → X s x A → YieldAt Fence.wide (n - 1) P l (encs x) A fun e A' => (e = .returned (.bool true) ∧ Jm s A' ∧ KeptFrom W.heap.size A A') ∨ (e = .returned (.bool false) ∧ Jx A')) → J s0 W →
    CallsIn Fence.wide n P gf (#[.func (.yield l) #[] #[]] ++ lb) W fun e W' => (∃ v, e = .returned v) ∧ ((∃ s, fin s ∧ Jm s W') ∨ Jx W')

/-- a round's body has gone on, or has returned -/
def OnOrRet (B : Nat) (Im Ix : World → Prop) (W : World) : Exit → Act → World → Prop
  | .normal, _, W' => KeptFrom B W W' ∧ Im W'
  | .ret, _, W' => KeptFrom B W W' ∧ Ix W'
  | _, _, _ => False

theorem range_leave {P : Program} {n : Nat} {g : Operand} {ps : Array Tmp} {assign body : Code} {Q : Exit → Act → World → Prop} {a : Act} {w : World}
    (h1 : 1 ≤ n) {gf : Nat} {lb : Array Value} (hg : a.eval g = .func (.func gf) #[] lb) (eg : ∀ args w, (callFunc gf args).run P w = .ok (.enter gf args) w)
    {α σ : Type} {encs : α → Array Value} (hps : ∀ x, (encs x).size = ps.size) {T : World → Prop} {X : σ → α → World → Prop} {s0 : σ} {nx : σ → σ → Prop} {fin : σ → Prop} (hit : HandsL (n - 1) P gf lb encs T X s0 nx fin)
    (I Im : σ → World → Prop) (Ix : World → Prop) (hIT : ∀ s A, I s A → T A) (hmT : ∀ s A, Im s A → T A)
    (hIb : ∀ s A B, I s A → Soft w.heap.size A B → I s B) (hmb : ∀ s A B, Im s A → Soft w.heap.size A B → Im s B) (hxb : ∀ A B, Ix A → Soft w.heap.size A B → Ix B) (hmi : ∀ s s' A, Im s A → nx s s' → I s' A)
    (hXp : ∀ s x A r o o', X s x A → A.heap[r]? = some o → o.isCells = false → X s x (A.putObj r o')) (h0 : I s0 w) (a₁ : α → Act)
    (hassign : ∀ (l : Nat) (x : α) (W : World) (K : Act → World → Prop), K (a₁ x) W →
      assign.wpIn (Fence.wide.inRound l) (n - 1 - 1) P (Exit.then K (fun _ _ _ => False)) { tmps := (ps.zip (encs x)).foldl (fun t (p, v) => t.setIfInBounds p v) a.tmps, defers := [] } W)
    (hbody : ∀ (l : Nat) (s : σ) (x : α) (W : World), I s W → X s x W → body.wpIn (Fence.wide.inRound l) (n - 1 - 1) P (OnOrRet w.heap.size (Im s) Ix W) (a₁ x) W)
    (hdone : ∀ (D : Nat) (s : σ) (W : World), w.heap.size ≤ D → fin s → Im s W → W.heap[D]? = some (.deferred (some [])) → Q .normal { a with defers := { target := .collected D, args := #[] } :: a.defers } W)
    (hstop : ∀ (D : Nat) (W : World), w.heap.size ≤ D → Ix W → W.heap[D]? = some (.deferred (some [])) → Code.ret.wpIn Fence.wide n P Q { a with defers := { target := .collected D, args := #[] } :: a.defers } W) :
    (Code.rangeFunc g ps assign body).wpIn Fence.wide n P Q a w := by
  refine wpIn_rangeFunc ?_
  intro fn hfn
  obtain ⟨rc, hrc⟩ : ∃ rc : LoopState → Option Code → Loop, rc = fun st pe => { state := st, pending := pe, fn, tmps := a.tmps, params := ps, assign, body, defers := w.heap.size } := ⟨_, rfl⟩
  obtain ⟨W1, hW1⟩ : ∃ W1, (w.alloc (.deferred (some []))).alloc (.loop (rc .ready none)) = W1 := ⟨_, rfl⟩
  have hs1 : W1.heap.size = w.heap.size + 2 := by rw [← hW1]; simp
  have hL1 : W1.heap[w.heap.size + 1]? = some (.loop (rc .ready none)) := by
    rw [← hW1]; have := World.alloc_heap_new (w.alloc (.deferred (some []))) (.loop (rc .ready none)); rwa [World.size_alloc] at this
  have hK1 : W1.heap[w.heap.size]? = some (.deferred (some [])) := by
    rw [← hW1]; exact (Below.heap_alloc _ _ _ (by simp)).trans (World.alloc_heap_new w _)
  have hb1 : Below w.heap.size w W1 := by
    rw [← hW1]; exact ((Below.refl _ w).alloc (Nat.le_refl _) _).alloc (by simp) _
  refine ⟨w.heap.size + 1, [{ target := .collected w.heap.size, args := #[] }], W1, { target := .fn (.func gf) lb, args := #[.func (.yield (w.heap.size + 1)) #[] #[]] }, W1, gf,
    #[.func (.yield (w.heap.size + 1)) #[] #[]] ++ lb, W1, ?_, ?_, fun _ _ => trivial, ?_, fun _ => h1, ?_⟩
  · rw [← hW1, hrc]; exact run_enterLoop_outer _ _ _ _ _
  · simp only [resolve, hg]
    simp [go_sem]
  · simp [invoke, go_sem, eg]
  refine (hit (w.heap.size + 1) (fun s W => I s W ∧ W.heap[w.heap.size + 1]? = some (.loop (rc .ready none)) ∧ W.heap[w.heap.size]? = some (.deferred (some [])))
    (fun s W => Im s W ∧ W.heap[w.heap.size + 1]? = some (.loop (rc .ready none)) ∧ W.heap[w.heap.size]? = some (.deferred (some [])))
    (fun W => Ix W ∧ W.heap[w.heap.size + 1]? = some (.loop (rc .done (some .ret))) ∧ W.heap[w.heap.size]? = some (.deferred (some []))) W1
    (fun s A h => hIT s A h.1) (fun s A h => hmT s A h.1)
    (fun s A B h hb => ⟨hIb s A B h.1 (hb.mono (by omega)), (hb.at_ (by omega) (Array.getElem?_eq_some_iff.1 h.2.1).1).trans h.2.1, (hb.at_ (by omega) (Array.getElem?_eq_some_iff.1 h.2.2).1).trans h.2.2⟩)
    (fun s s' A B h hn hb => ⟨hIb s' A B (hmi s s' A h.1 hn) (hb.mono (by omega)), (hb.at_ (by omega) (Array.getElem?_eq_some_iff.1 h.2.1).1).trans h.2.1, (hb.at_ (by omega) (Array.getElem?_eq_some_iff.1 h.2.2).1).trans h.2.2⟩)
    ?_ ⟨hIb s0 w W1 h0 (Soft.of_below hb1), hL1, hK1⟩).mono ?_
  · rintro s x W ⟨hi, hl, hk⟩ hx
    have hlt : w.heap.size + 1 < W.heap.size := (Array.getElem?_eq_some_iff.1 hl).1
    have hy := run_yield (P := P) (args := encs x) hl (by rw [hrc]; exact hps x)
    rw [hrc] at hy
    refine ⟨fn, _, assign, body, hy, roundIn_of_wpIn hfn (hassign _ x W _ ?_)⟩
    refine ⟨_, run_beginRound hl (by rw [hrc]), ?_⟩
    have hl2 : (W.putObj (w.heap.size + 1) (.loop { rc .ready none with state := .busy })).heap[w.heap.size + 1]? = some (.loop { rc .ready none with state := .busy }) := World.putObj_heap_same hlt
    have hk2 : (W.putObj (w.heap.size + 1) (.loop { rc .ready none with state := .busy })).heap[w.heap.size]? = some (.deferred (some [])) := (World.putObj_heap_other (by omega)).trans hk
    refine wpIn_mono (hbody _ s x _ (hIb s W _ hi (Soft.put (by omega) hl rfl _)) (hXp s x W _ _ _ hx hl rfl)) ?_
    have fin : ∀ (jump : Option Code) (W3 : World), KeptFrom w.heap.size (W.putObj (w.heap.size + 1) (.loop { rc .ready none with state := .busy })) W3 →
        (Instr.endRound (w.heap.size + 1) jump).run P W3 = .ok (.bool jump.isNone) (W3.putObj (w.heap.size + 1) (.loop (rc (if jump.isNone then .ready else .done) jump))) ∧
        (W3.putObj (w.heap.size + 1) (.loop (rc (if jump.isNone then .ready else .done) jump))).heap[w.heap.size + 1]? = some (.loop (rc (if jump.isNone then .ready else .done) jump)) ∧
        (W3.putObj (w.heap.size + 1) (.loop (rc (if jump.isNone then .ready else .done) jump))).heap[w.heap.size]? = some (.deferred (some [])) ∧
        KeptFrom W1.heap.size W (W3.putObj (w.heap.size + 1) (.loop (rc (if jump.isNone then .ready else .done) jump))) ∧ W3.heap[w.heap.size + 1]? = some (.loop { rc .ready none with state := .busy }) := fun jump W3 hk3 => by
      have hl3 := (hk3.block (w.heap.size + 1) (by omega) (by simp; omega)).trans hl2
      have hk4 := (hk3.block w.heap.size (Nat.le_refl _) (by simp; omega)).trans hk2
      have hr := run_endRound (P := P) jump hl3
      have hsz := hk3.size
      rw [World.putObj_size] at hsz
      refine ⟨?_, World.putObj_heap_same (by omega), (World.putObj_heap_other (by omega)).trans hk4, ⟨by simpa using hsz, fun q hq hql => ?_⟩, hl3⟩
      · rw [hrc] at hr ⊢
        exact hr
      · rw [World.putObj_heap_other (by omega), hk3.block q (by omega) (by simpa using hql), World.putObj_heap_other (by omega)]
    rintro e a3 W3 hp
    cases e with
    | normal =>
      obtain ⟨hk3, hi3⟩ := hp
      obtain ⟨hr, hl4, hk4, hkf, hl3⟩ := fin none W3 hk3
      exact ⟨_, _, hr, Or.inl ⟨rfl, ⟨hmb s W3 _ hi3 (Soft.put (by omega) hl3 rfl _), hl4, hk4⟩, hkf⟩⟩
    | ret =>
      obtain ⟨hk3, hi3⟩ := hp
      obtain ⟨hr, hl4, hk4, _, hl3⟩ := fin (some .ret) W3 hk3
      exact ⟨_, _, hr, Or.inr ⟨rfl, hxb W3 _ hi3 (Soft.put (by omega) hl3 rfl _), hl4, hk4⟩⟩
    | exit id => exact hp.elim
    | goto t => exact hp.elim
    | panic ch => exact hp.elim
    | outgrown => exact hp.elim
  · rintro e W2 ⟨⟨v, rfl⟩, (⟨s, hfin, hi, hl, hk⟩ | ⟨hi, hl, hk⟩)⟩
    · refine ⟨none, _, ?_, hdone _ s _ (Nat.le_refl _) hfin (hmb s W2 _ hi (Soft.put (show w.heap.size ≤ w.heap.size + 1 by omega) hl rfl (.loop { rc .ready none with state := .exhausted }))) ((World.putObj_heap_other (by omega)).trans hk)⟩
      have := run_endLoop (P := P) hl (by rw [hrc]; simp)
      rw [hrc] at this ⊢
      exact this
    · refine ⟨some .ret, _, ?_, hstop _ _ (Nat.le_refl _) (hxb W2 _ hi (Soft.put (show w.heap.size ≤ w.heap.size + 1 by omega) hl rfl (.loop { rc .done (some .ret) with state := .exhausted }))) ((World.putObj_heap_other (by omega)).trans hk)⟩
      have := run_endLoop (P := P) hl (by rw [hrc]; simp)
      rw [hrc] at this ⊢
      exact this

set_option maxRecDepth 100000 in
theorem choices35 (N k : Nat) (w : World) :
    Calls Tryz.prog 40 #[.int .i64 N, .int .i64 k] w fun e w' => e = .returned (.func (.func 72) #[] #[.pointer (some ⟨w.heap.size + 1, 0, none⟩), .pointer (some ⟨w.heap.size, 0, none⟩)]) ∧ (w.alloc (.cells #[.int .i64 N] TI)).alloc (.cells #[.int .i64 k] TI) = w' := by
  have hmf : ∀ (fn : Fn) (first cap : Array Value) (w : World), (Instr.makeFunc fn first cap).run Tryz.prog w = .ok (.func fn first cap) w := fun _ _ _ _ => rfl
  go_enter Tryz.func40, Tryz.ntmps40
  go_wp2_with fail
  go_ret
  exact ⟨rfl, rfl⟩

/-- what the choices are told from -/
def ChT (bc br k N : Nat) (W : World) : Prop := W.cell? ⟨bc, 0, none⟩ = some (.int .i64 k) ∧ W.cell? ⟨br, 0, none⟩ = some (.int .i64 N)
/-- a choice that is handed over -/
def ChX (b k N : Nat) (l : Nat → Nat) (x : Option Addr × Nat) (W : World) : Prop := Rise k N l ∧ Rd b W (chs l) x.1 k
def ChNx (k N : Nat) (l l' : Nat → Nat) : Prop := ∃ i, MovesAt k N l i ∧ l' = nxt l i
def ChFin (k N : Nat) (l : Nat → Nat) : Prop := ∀ r, r < k → N + r ≤ l r + k
/-- the choice that lies at block g -/
def chOf (W : World) (g j : Nat) : Nat := match W.cell? ⟨g, j, none⟩ with
  | some v => (intOf v).toNat
  | none => 0
theorem chOf_row {W : World} {g k : Nat} {l : Nat → Nat} (h : W.rowIs g TI k (chs l)) {j : Nat} (hj : j < k) : chOf W g j = l j := by
  unfold chOf
  rw [h.cell hj]
  simp [chs, intOf]
/-- how many choices are still to come -/
def chMs (k N g : Nat) (s5 : Value) (W : World) : Nat := match s5 with
  | .bool true => N ^ k - chV N (chOf W g) k
  | _ => 0
/-- in the loop of choices -/
def ChAt (k N g : Nat) (J Jm : (Nat → Nat) → World → Prop) (B : Nat) (s5 : Value) (W : World) : Prop :=
  ∃ l, Rise k N l ∧ W.rowIs g TI k (chs l) ∧ B ≤ W.heap.size ∧ ((s5 = .bool true ∧ J l W) ∨ (s5 = .bool false ∧ Jm l W ∧ ChFin k N l))

set_option maxRecDepth 100000 in
set_option maxHeartbeats 4000000 in
theorem choices_hand (n b bc br k N : Nat) (hk : 1 ≤ k) (hkN : k ≤ N) (hN : N ≤ 40) (hn : 1 ≤ n) (hb : ∀ W : World, ChT bc br k N W → b < W.heap.size) :
    HandsL n Tryz.prog 72 #[.pointer (some ⟨bc, 0, none⟩), .pointer (some ⟨br, 0, none⟩)] (fun x : Option Addr × Nat => #[.slice x.1 k x.2]) (ChT bc br k N) (ChX b k N) (fun i => i) (ChNx k N) (ChFin k N) := by
  intro l J Jm Jx W hJT hMT hJb hMn hY h0
  have HT := Lib.hid hJT
  have HMT := Lib.hid hMT
  have HJB := Lib.hid hJb
  have HMN := Lib.hid hMn
  have HY := Lib.hid hY
  have H0 := Lib.hid h0
  have hbW := hb W (hJT _ _ h0)
  have h00 := (hJT _ _ h0).1
  clear hJT hMT hJb hMn hY h0 hb
  refine callsIn_of_wp Tryz.func72 rfl trivial ?_ rfl
  simp only [Tryz.ntmps72, List.size_toArray, List.length_cons, List.length_nil, Nat.reduceAdd, Nat.reduceSub, Array.replicate_succ, Array.replicate_zero, List.push_toArray, List.append_toArray, List.nil_append, List.cons_append]
  gi_wp2_with fail
  refine ⟨trivial, (callsIn_wide.2 (from29 0 k (by omega) (by omega) W)).mono ?_⟩
  rintro e W1 ⟨rfl, hr1, hb1⟩
  have HS := Lib.hid (show ChAt k N W.heap.size J Jm W.heap.size (.bool true) W1 from ⟨fun i => i, first_rise hkN, hr1.congr (fun j _ => by simp only [i64s, frm, chs, Nat.zero_add]), hb1.size, Or.inl ⟨rfl, HJB.out _ _ _ H0.out (Soft.of_below hb1)⟩⟩)
  obtain ⟨g, hg⟩ : ∃ g, W.heap.size = g := ⟨_, rfl⟩
  rw [hg]
  rw [hg] at HS HJB HMN HY hbW
  clear hr1 hb1 H0 h00 hg
  gi_wp2_with fail
  gi_loopw [5] (fun s5 wr => ChAt k N g J Jm g s5 wr) (fun s5 wr => chMs k N g s5 wr)
  case atStart => exact HS.out
  case round =>
    clear HS
    obtain ⟨ch, hR, hrow, hsz, hcase⟩ := hrel
    obtain ⟨w1, hw1⟩ : ∃ w1, w1 = wr := ⟨_, rfl⟩
    subst hw1
    have HR := Lib.hid hR
    have HRW := Lib.hid hrow
    rcases hcase with ⟨rfl, hJ⟩ | ⟨rfl, hM, hF⟩
    · have HJ := Lib.hid hJ
      have hgl := hrow.lt
      have HRD := Lib.hid (show Rd b w1 (i64s (fun j => ((ch j : Nat) : Int))) (some ⟨g, 0, none⟩) k from Rd.of_row hrow (by omega) (Nat.le_refl _))
      clear hR hrow hJ
      gi_wp2_with fail
      refine ⟨trivial, (callsIn_wide.2 (clone38 b _ (some ⟨g, 0, none⟩) k k (by omega) w1 HRD.out)).mono ?_⟩
      rintro e w2 ⟨A2, c2, rfl, _, hrd2, hb2⟩
      have HJ2 := Lib.hid (HJB.out _ _ _ HJ.out (Soft.of_below hb2))
      have HX2 := Lib.hid (show ChX b k N ch (A2, c2) w2 from ⟨HR.out, hrd2 b (by omega)⟩)
      have HRW2 := Lib.hid (HRW.out.of_block (hb2.block _ hgl))
      have hsz2 := hb2.size
      obtain ⟨fn, tmps, assign, body, hy, hRd⟩ := HY.out ch (A2, c2) w2 HJ2.out HX2.out
      clear hrd2 hb2 HRD HJ
      gi_wp2_with fail
      refine hRd.mono ?_
      rintro e w3 (⟨rfl, hM3, hK3⟩ | ⟨rfl, hx3⟩)
      · have HM3 := Lib.hid hM3
        have HRW3 := Lib.hid (HRW2.out.of_block (hK3.block g (Nat.le_refl _) HRW2.out.lt))
        have hsz3 := hK3.size
        have hc3 := (HMT.out _ _ hM3).2
        clear hM3 hK3 hy hRd HX2 HJ2 HRW2
        gi_wp2_with fail
        refine ⟨trivial, (callsIn_wide.2 (moveOn53 k N g ch hk hkN hN HR.out _ HRW3.out)).mono ?_⟩
        rintro e w4 (⟨i, hmv, rfl, hr4, ht4⟩ | ⟨hlast, rfl, rfl⟩)
        · have HS := Lib.hid (show ChAt k N g J Jm g (.bool true) w4 from ⟨nxt ch i, nxt_rise HR.out hmv, hr4, by have := ht4.size; omega, Or.inl ⟨rfl, HMN.out _ _ _ _ HM3.out ⟨i, hmv, rfl⟩ (Soft.of_turned ht4 (Nat.le_refl _) HRW3.out)⟩⟩)
          have HME := Lib.hid (show chMs k N g (.bool true) w4 < chMs k N g (.bool true) w1 from by
            show N ^ k - chV N (chOf w4 g) k < N ^ k - chV N (chOf w1 g) k
            rw [chV_same (l' := nxt ch i) k (fun j hj => chOf_row hr4 hj), chV_same (l' := ch) k (fun j hj => chOf_row HRW.out hj)]
            have h1 := chV_step HR.out hmv
            have h2 := chV_lt k (nxt_rise HR.out hmv).1
            omega)
          clear hmv hr4 ht4 hc3
          gi_wp2_with fail
          exact ⟨HS.out, HME.out⟩
        · have HS := Lib.hid (show ChAt k N g J Jm g (.bool false) w3 from ⟨ch, HR.out, HRW3.out, by omega, Or.inr ⟨rfl, HM3.out, hlast⟩⟩)
          have HME := Lib.hid (show chMs k N g (.bool false) w3 < chMs k N g (.bool true) w1 from by
            show 0 < N ^ k - chV N (chOf w1 g) k
            rw [chV_same (l' := ch) k (fun j hj => chOf_row HRW.out hj)]
            have h2 := chV_lt k HR.out.1
            omega)
          clear hlast hc3
          gi_wp2_with fail
          exact ⟨HS.out, HME.out⟩
      · have HX3 := Lib.hid hx3
        clear hx3 hy hRd
        gi_wp2_with fail
        refine bodyPost_ret (results_none rfl _ _ _) rfl ?_
        exact ⟨⟨_, rfl⟩, Or.inr HX3.out⟩
    · have HE := Lib.hid (show (∃ s, ChFin k N s ∧ Jm s w1) ∨ Jx w1 from Or.inl ⟨ch, hF, hM⟩)
      clear hR hrow hM hF
      gi_wp2_with fail
      go_end0
      exact ⟨⟨_, rfl⟩, HE.out⟩

/-- what haveInverse tells -/
def HavSaid (q : FP) (b wd k : Nat) (G : Nat → Nat → Int) (w : World) (e : Ending) (w' : World) : Prop :=
  ∃ t, e = .returned (.tuple #[.bool t, .int .i64 0]) ∧ (t = true ↔ rk k (elM q G) k = k) ∧ Fld q.p b wd w' ∧ Turned b w w'

set_option maxRecDepth 100000 in
set_option maxHeartbeats 2000000 in
theorem have36 (q : FP) (b wd N k : Nat) (F : Nat → Nat → Int) (A B : Option Addr) (ca cb : Nat) (l : Nat → Nat) (hmay : mayP (M.ord q.p) N (fun _ => k) F) (hl : ∀ r, r < k → l r < N) (w : World) (hf : Fld q.p b wd w) (hm : Mx b w F (fun _ => k) A N) (hr : Rd b w (chs l) B k) :
    Calls Tryz.prog 41 #[.pointer (some ⟨b, 0, none⟩), .slice A N ca, .slice B k cb] w (HavSaid q b wd k (fun r => F (l r)) w) := by
  have hbl := hf.lt
  have HF := Lib.hid hf
  have HP := Lib.hid (pick12 b wd (M.ord q.p) hf.1.kind F (fun _ => k) A B N k ca cb (fun j => ((l j : Nat) : Int)) w hf.c0 hm hr)
  have HPP := Lib.hid (show pickP (M.ord q.p) N (fun _ => k) F k (fun j => ((l j : Nat) : Int)) from ⟨hmay, hmay.2.1, fun r hr => by have := hl r hr; dsimp only; omega⟩)
  have HSQ := Lib.hid (show sqP (M.ord q.p) k (fun _ => k) (fun r => F (l r)) from ⟨⟨hmay.2.1, hmay.2.1, fun r hr => ⟨rfl, (hmay.2.2 (l r) (hl r hr)).2⟩⟩, rfl⟩)
  clear hf hm hr hmay hl
  go_enter Tryz.func41, Tryz.ntmps41
  go_wp2_with fail
  refine HP.out.mono ?_
  rintro e w1 ⟨t, v, rfl, ht, hv⟩
  obtain rfl : t = true := ht.2 HPP.out
  obtain ⟨A1, c1, rfl, _, hx1, hb1⟩ := hv
  have HX := Lib.hid (show Mx b w1 (fun r => F (l r)) (fun _ => k) A1 k from hx1 b hbl)
  have HB := Lib.hid hb1
  simp only [errOf, if_true, cond]
  clear ht hx1 hb1 HP HPP
  go_wp2_with fail
  refine (inverse12 q b wd k (fun _ => k) (fun r => F (l r)) A1 c1 _ (HF.out.of_below HB.out) HX.out).mono ?_
  rintro e w2 ⟨s, t, A2, c2, rfl, hs, ht, _, _, hf2, ht2⟩
  obtain rfl : s = true := hs.2 HSQ.out
  have HE := Lib.hid (show HavSaid q b wd k (fun r => F (l r)) w (.returned (.tuple #[.bool t, .int .i64 0])) w2 from ⟨t, rfl, ht rfl, hf2, (Turned.of_below HB.out).trans ht2⟩)
  clear hs ht hf2 ht2 HX HB HF HSQ
  cases t
  · simp only [err2, cond]
    go_wp2_with fail
    go_ret2
    exact HE.out
  · simp only [err2, cond]
    go_wp2_with fail
    go_ret2
    exact HE.out
end Go.Proofs.YtdidlfeolbcblaaGreatDoor

namespace Go.Proofs.YtdidlfeolbcblaaGreatDoor
open Go.RowKit Go.Shelf
attribute [local go_sem] Oper.semAt_some

/-- two results that lie in cells of their own -/
theorem results_cells2 {fn : Func} {p u : Tmp} {t1 t2 : TypeId} (h : fn.results = #[.cell p t1, .cell u t2]) (tmps : Array Value) (P : Program) (w : World) {a1 a2 : Addr} {v1 v2 : Value} (e1 : tmps.getD p undef = .pointer (some a1)) (e2 : tmps.getD u undef = .pointer (some a2))
    (i1 : ∀ w, (isAgg t1).run P w = .ok false w) (i2 : ∀ w, (isAgg t2).run P w = .ok false w) (c1 : w.cell? a1 = some v1) (c2 : w.cell? a2 = some v2) : (results fn tmps).run P w = .ok (.tuple #[v1, v2]) w := by
  have e1' : tmps[p]?.getD undef = .pointer (some a1) := by simpa using e1
  have e2' : tmps[u]?.getD undef = .pointer (some a2) := by simpa using e2
  have l1 : (load a1).run P w = .ok v1 w := by simp [run_load, c1]
  have l2 : (load a2).run P w = .ok v2 w := by simp [run_load, c2]
  simp [results, h, e1', e2', asAddr, loadVar, Sem.run_bind, i1, i2, Result.andThen, l1, l2]

abbrev TBl : Nat := 4
abbrev TEr : Nat := 37
theorem aggBl (w : World) : (isAgg TBl).run Tryz.prog w = .ok false w := by kernel_rfl
theorem aggEr (w : World) : (isAgg TEr).run Tryz.prog w = .ok false w := by kernel_rfl

/-- what Safe asks -/
def safeP (c m : Nat) (Ls : Nat → Nat) (F : Nat → Nat → Int) : Prop := mayP c m Ls F ∧ m ≤ 5 ∧ Ls 0 ≤ 8
/-- what Safe tells -/
def SafeSaid (q : FP) (b wd m : Nat) (Ls : Nat → Nat) (F : Nat → Nat → Int) (w : World) (e : Ending) (w' : World) : Prop :=
  ∃ s t, e = .returned (.tuple #[.bool t, .int .i64 (errOf s)]) ∧ (s = true ↔ safeP (M.ord q.p) m Ls F) ∧ (t = true ↔ s = true ∧ SafeP q (Ls 0) m (elM q F)) ∧ Fld q.p b wd w' ∧ Turned b w w'

/-- the world when Safe begins: the field's box and both results' -/
def safeW (b : Nat) (w : World) : World := ((w.alloc (.cells #[.pointer (some ⟨b, 0, none⟩)] 42)).alloc (.cells #[.bool false] TBl)).alloc (.cells #[.int .i64 0] TEr)
theorem safeW_below (b : Nat) (w : World) : Below w.heap.size w (safeW b w) := (((Below.refl _ w).alloc (Nat.le_refl _) _).alloc (by simp) _).alloc (by simp; omega) _
theorem safeW_size (b : Nat) (w : World) : (safeW b w).heap.size = w.heap.size + 3 := by simp [safeW]
theorem safeW_f (b : Nat) (w : World) : (safeW b w).rowIs w.heap.size 42 1 (fun _ => .pointer (some ⟨b, 0, none⟩)) := ((World.rowIs_alloc w #[.pointer (some ⟨b, 0, none⟩)] _ (fun _ => .pointer (some ⟨b, 0, none⟩)) (fun i hi => by simp at hi; subst hi; rfl)).alloc _).alloc _
theorem safeW_r (b : Nat) (w : World) : (safeW b w).rowIs (w.heap.size + 1) TBl 1 (fun _ => .bool false) := by
  have h := (World.rowIs_alloc (w.alloc (.cells #[.pointer (some ⟨b, 0, none⟩)] 42)) #[.bool false] TBl (fun _ => .bool false) (fun i hi => by simp at hi; subst hi; rfl)).alloc (.cells #[.int .i64 0] TEr)
  rwa [World.size_alloc] at h
theorem safeW_e (b : Nat) (w : World) : (safeW b w).rowIs (w.heap.size + 2) TEr 1 (fun _ => .int .i64 0) := by
  have h := World.rowIs_alloc ((w.alloc (.cells #[.pointer (some ⟨b, 0, none⟩)] 42)).alloc (.cells #[.bool false] TBl)) #[.int .i64 0] TEr (fun _ => .int .i64 0) (fun i hi => by simp at hi; subst hi; rfl)
  rwa [World.size_alloc, World.size_alloc] at h

set_option maxRecDepth 100000 in
set_option maxHeartbeats 4000000 in
theorem safe_no (q : FP) (b wd m : Nat) (Ls : Nat → Nat) (F : Nat → Nat → Int) (A : Option Addr) (cap : Nat) (w : World) (hf : Fld q.p b wd w) (hm : Mx b w F Ls A m) (hno : ¬ safeP (M.ord q.p) m Ls F) :
    Calls Tryz.prog 21 #[.pointer (some ⟨b, 0, none⟩), .slice A m cap] w (SafeSaid q b wd m Ls F w) := by
  have hkd := hf.1.kind
  obtain ⟨w2, hw2⟩ : ∃ w2, safeW b w = w2 := ⟨_, rfl⟩
  have hbe := safeW_below b w
  have r1 := safeW_f b w
  have r2 := safeW_r b w
  have r3 := safeW_e b w
  rw [hw2] at hbe r1 r2 r3
  have HW := Lib.hid hw2
  have HB := Lib.hid hbe
  have c1 := r1.cell (i := 0) (by omega)
  have c2 := r2.cell (i := 0) (by omega)
  have c3 := r3.cell (i := 0) (by omega)
  have f2 := r2.frozen 0
  have f3 := r3.frozen 0
  have HM := Lib.hid (may16 b wd _ hkd F Ls A m cap w2 (hf.of_below hbe).c0 (hm.below hbe))
  obtain ⟨w4, hw4⟩ : ∃ w4, (w2.setCell ⟨w.heap.size + 1, 0, none⟩ (.bool false)).setCell ⟨w.heap.size + 2, 0, none⟩ (.int .i64 1) = w4 := ⟨_, rfl⟩
  have HE := Lib.hid (show SafeSaid q b wd m Ls F w (.returned (.tuple #[.bool false, .int .i64 1])) w4 from ⟨false, false, rfl, by simp [hno], by simp, by
    rw [← hw4]
    exact ((hf.of_below hbe).setRow r2 (by decide) (by decide) _).setRow (r3.setOther (a := ⟨w.heap.size + 1, 0, none⟩) (by simp) _) (by decide) (by decide) _, by
    rw [← hw4]
    exact ((Turned.of_below hbe).set_new (by omega) _).set_new (by omega) _⟩)
  have d2 : w4.cell? ⟨w.heap.size + 1, 0, none⟩ = some (.bool false) := by
    rw [← hw4, World.cell?_setCell_other _ _ _ _ (by simp), World.cell?_setCell_same _ _ _ c2]
  have d3 : w4.cell? ⟨w.heap.size + 2, 0, none⟩ = some (.int .i64 1) := by
    rw [← hw4]
    exact World.cell?_setCell_same _ _ _ (by rw [World.cell?_setCell_other _ _ _ _ (by simp)]; exact c3)
  have hA : mayP (M.ord q.p) m Ls F → ∃ ad A0 C0, A = some ad ∧ w2.cell? ad = some (.slice A0 (Ls 0) C0) := fun hmay => by
    obtain ⟨As, Cs, ha, _⟩ := hm.below hbe
    obtain ⟨ad, rfl, hc⟩ := ha.at_ (show 0 < m by have := hmay.1.1; omega)
    rw [show ad.add 0 = ad by simp [Addr.add]] at hc
    exact ⟨ad, _, _, rfl, hc⟩
  have HA := Lib.hid hA
  have HN := Lib.hid hno
  unfold safeW at hw2
  clear r1 r2 r3 hbe hm hf hA hno
  go_enter Tryz.func21, Tryz.ntmps21
  go_wp2_with fail
  refine HM.out.mono ?_
  rintro e w' ⟨t, rfl, ht, rfl⟩
  cases t
  · clear ht
    go_wp2_with fail
    refine bodyPost_ret (results_cells2 rfl _ _ _ rfl rfl aggBl aggEr d2 d3) rfl ?_
    exact HE.out
  have hmay := ht.1 rfl
  obtain ⟨ad, A0, C0, rfl, hc0⟩ := HA.out hmay
  have hm1 := hmay.1.1
  have hm2 := hmay.1.2
  have hl2 := hmay.2.1.2
  have HMAY := Lib.hid hmay
  have hm0 : (0 : Int) < (m : Int) := by omega
  clear ht hmay
  by_cases h5 : m ≤ 5
  · by_cases h8 : Ls 0 ≤ 8
    · exact absurd (show safeP (M.ord q.p) m Ls F from ⟨HMAY.out, h5, h8⟩) HN.out
    · have e1 : decide ((5 : Int) < (m : Int)) = false := by simp; omega
      have e2 : decide ((8 : Int) < ((Ls 0 : Nat) : Int)) = true := by simp; omega
      go_wp2_with fail
      refine bodyPost_ret (results_cells2 rfl _ _ _ rfl rfl aggBl aggEr d2 d3) rfl ?_
      exact HE.out
  · have e1 : decide ((5 : Int) < (m : Int)) = true := by simp; omega
    go_wp2_with fail
    refine bodyPost_ret (results_cells2 rfl _ _ _ rfl rfl aggBl aggEr d2 d3) rfl ?_
    exact HE.out

/-- the identity, and p's rows behind it, are there -/
def WholeAt (b k m : Nat) (F : Nat → Nat → Int) (w2 : World) (s7 s8 : Value) (wr : World) : Prop :=
  ∃ bw A c, s7 = .pointer (some ⟨bw, 0, none⟩) ∧ s8 = .int .i64 0 ∧ w2.heap.size ≤ bw ∧ wr.cell? ⟨bw, 0, none⟩ = some (.slice A (k + m) c) ∧ Mx b wr (joinF k idF F) (fun _ => k) A (k + m) ∧ Below w2.heap.size w2 wr

theorem Rd.fresh {b : Nat} {W : World} {K : Nat → Value} {A : Option Addr} {n : Nat} (h : Rd b W K A n) : Rd W.heap.size W K A n := fun hn => by
  obtain ⟨ad, h1, _, h3, h4⟩ := h hn
  exact ⟨ad, h1, by omega, h3, h4⟩
theorem Mx.fresh {b : Nat} {W : World} {F : Nat → Nat → Int} {Ls : Nat → Nat} {A : Option Addr} {n : Nat} (h : Mx b W F Ls A n) : Mx W.heap.size W F Ls A n := by
  obtain ⟨As, Cs, h1, h2⟩ := h
  exact ⟨As, Cs, h1.fresh, fun r hr => (h2 r hr).fresh⟩
/-- rows that lie apart from a block that turns -/
theorem mx_turn {b g : Nat} {W W' : World} {F : Nat → Nat → Int} {Ls : Nat → Nat} {A : Option Addr} {n : Nat} (hg : Mx g W F Ls A n) (hb : Mx b W F Ls A n) (ht : Turned g W W') : Mx b W' F Ls A n := by
  obtain ⟨As, Cs, h1, h2⟩ := hg
  obtain ⟨Bs, Ds, k1, k2⟩ := hb
  have he : ∀ r, r < n → slis As Ls Cs r = slis Bs Ls Ds r := fun r hr => by
    obtain ⟨ad, e1, c1⟩ := h1.at_ hr
    obtain ⟨ad', e2, c2⟩ := k1.at_ hr
    rw [e1] at e2
    injection e2 with e2
    subst e2
    rw [c1] at c2
    injection c2
  refine ⟨Bs, Ds, rd_turn (h1.congr he) k1 ht, fun r hr => rd_turn ?_ (k2 r hr) ht⟩
  have := he r hr
  simp only [slis] at this
  injection this with e
  rw [← e]
  exact h2 r hr
theorem whole_done {b k m bw : Nat} {F : Nat → Nat → Int} {w2 w5 : World} {A : Option Addr} {c : Nat} (hr : w5.rowIs bw TM 1 (fun _ => nilS)) (hbw : w2.heap.size ≤ bw) (h1 : Mx bw w5 (joinF k idF F) (fun _ => k) A (k + m)) (h2 : Mx b w5 (joinF k idF F) (fun _ => k) A (k + m)) (hb : Below w2.heap.size w2 w5) :
    WholeAt b k m F w2 (.pointer (some ⟨bw, 0, none⟩)) (.int .i64 0) (w5.setCell ⟨bw, 0, none⟩ (.slice A (k + m) c)) :=
  ⟨bw, A, c, rfl, rfl, hbw, World.cell?_setCell_same _ _ _ (hr.cell (i := 0) (by omega)), mx_turn h1 h2 ((Turned.refl bw w5).setCell 0 _), hb.setCell (p := ⟨bw, 0, none⟩) hbw _⟩
theorem box_new (W : World) : (W.alloc (.cells #[nilS] TM)).rowIs W.heap.size TM 1 (fun _ => nilS) := World.rowIs_alloc W #[nilS] TM (fun _ => nilS) (fun i hi => by simp at hi; subst hi; rfl)

/-- the identity's rows and p's, as numbers of the field -/
theorem join_el {q : FP} {k : Nat} (F : Nat → Nat → Int) (r j : Nat) : elM q (joinF k idF F) r j = joinE k dl (elM q F) r j := by
  unfold elM joinF joinE
  by_cases e : r < k
  · rw [if_pos e, if_pos e, idF_el (q := q)]
    exact toEl_of _
  · rw [if_neg e, if_neg e]
theorem good_join {q : FP} {k : Nat} (F : Nat → Nat → Int) (l : Nat → Nat) : rk k (elM q (fun r => joinF k idF F (l r))) k = k ↔ GoodCh q k (elM q F) l := by
  unfold GoodCh
  rw [rk_congr (G := elM q (fun r => joinF k idF F (l r))) (F := fun i j => joinE k dl (elM q F) (l i) j) (fun r _ j _ => join_el F (l r) j)]
/-- while the choices go on -/
def SafI (q : FP) (b wd : Nat) (w6 W : World) : Prop := Fld q.p b wd W ∧ Turned b w6 W
theorem SafI.soft {q : FP} {b wd : Nat} {w6 X Y : World} (h : SafI q b wd w6 X) (hb : Soft w6.heap.size X Y) : SafI q b wd w6 Y := ⟨hb.fld h.1, hb.turned h.2 (Nat.le_refl _)⟩
theorem SafI.told {q : FP} {b wd bc br k N : Nat} {w6 W : World} (h : SafI q b wd w6 W) (h1 : w6.cell? ⟨br, 0, none⟩ = some (.int .i64 (N : Int))) (h2 : w6.cell? ⟨bc, 0, none⟩ = some (.int .i64 (k : Int))) (hb : b ≠ br ∧ b ≠ bc) : ChT bc br k N W :=
  ⟨(h.2.cell (q := ⟨bc, 0, none⟩) (lt_of_cell h2) (fun e => hb.2 e.symm)).trans h2, (h.2.cell (q := ⟨br, 0, none⟩) (lt_of_cell h1) (fun e => hb.1 e.symm)).trans h1⟩
/-- a choice has been found that has no inverse -/
def SafX (q : FP) (b wd k m : Nat) (F : Nat → Nat → Int) (w W : World) : Prop :=
  Fld q.p b wd W ∧ Turned b w W ∧ W.cell? ⟨w.heap.size + 1, 0, none⟩ = some (.bool false) ∧ W.cell? ⟨w.heap.size + 1 + 1, 0, none⟩ = some (.int .i64 0) ∧ ¬ SafeP q k m (elM q F)
theorem SafX.soft {q : FP} {b wd k m B : Nat} {F : Nat → Nat → Int} {w X Y : World} (h : SafX q b wd k m F w X) (hb : Soft B X Y) (hB : w.heap.size ≤ B) (h4 : w.heap.size + 1 < B) (h5 : w.heap.size + 1 + 1 < B) : SafX q b wd k m F w Y := by
  obtain ⟨h1, h2, h3, h6, h7⟩ := h
  exact ⟨hb.fld h1, hb.turned h2 hB, (World.cell?_of_block (hb.at_ h4 (lt_of_cell h3))).trans h3, (World.cell?_of_block (hb.at_ h5 (lt_of_cell h6))).trans h6, h7⟩

/-- a region that draws its order, by hand -/
theorem region_plain {P : Program} {id : Nat} {ops : Array Oper} {Q : Exit → Act → World → Prop} {a : Act} {w : World} (S : World → Prop) (N : Nat) (hN : ops.size = N) (hm : P.follows .mixedOrders = true)
    (h : wpAnyH P .any ops (OnlyN Q) S N (Array.replicate N false) a w.drew) : (Code.region id ops true).wp P Q a w := by
  subst hN
  exact Code.wp_mono OnlyN.imp (wp_region_any hm (wpAny_of_held _ _ _ _ h))

/-- Join, of the identity and p -/
theorem join_id (b wd c k m : Nat) (hkd : Kind wd c) (F : Nat → Nat → Int) (Ls : Nat → Nat) (AI B : Option Addr) (cI cb : Nat) (X : World) (hI : mayP c k (fun _ => k) idF) (hF : mayP c m Ls F) (hl : Ls 0 = k) (hkm : k + m ≤ 20) (hc : X.cell? ⟨b, 0, none⟩ = some (.int .i64 wd)) (h1 : Mx b X idF (fun _ => k) AI k) (h2 : Mx b X F Ls B m) :
    Calls Tryz.prog 22 #[.pointer (some ⟨b, 0, none⟩), .slice AI k cI, .slice B m cb] X fun e w' => ∃ A c, e = .returned (.tuple #[.slice A (k + m) c, .int .i64 0]) ∧ (∀ b', b' < X.heap.size → Mx b' w' (joinF k idF F) (fun _ => k) A (k + m)) ∧ Below X.heap.size X w' := by
  refine (join14 b wd c hkd idF F (fun _ => k) Ls AI B k m cI cb X hc h1 h2).mono ?_
  rintro e w' ⟨t, v, rfl, ht, hv⟩
  obtain rfl : t = true := ht.2 ⟨hI, hF, hl.symm, hkm⟩
  obtain ⟨A, c', rfl, _, hx, hb⟩ := hv
  refine ⟨A, c', rfl, fun b' hb' => (hx b' hb').congr (fun r hr => ?_) (fun _ _ _ _ => rfl), hb⟩
  unfold joinL
  simp only [cond] at hr
  split
  · rfl
  · rw [(hF.2.2 (r - k) (by omega)).1, hl]

set_option maxRecDepth 100000 in
set_option maxHeartbeats 4000000 in
theorem safe_yes (q : FP) (b wd m : Nat) (Ls : Nat → Nat) (F : Nat → Nat → Int) (A : Option Addr) (cap : Nat) (w : World) (hf : Fld q.p b wd w) (hm : Mx b w F Ls A m) (hyes : safeP (M.ord q.p) m Ls F) :
    Calls Tryz.prog 21 #[.pointer (some ⟨b, 0, none⟩), .slice A m cap] w (SafeSaid q b wd m Ls F w) := by
  have hkd := hf.1.kind
  have hcb := hkd.bounds
  have hbl := hf.lt
  obtain ⟨w2, hw2⟩ : ∃ w2, safeW b w = w2 := ⟨_, rfl⟩
  have hbe := safeW_below b w
  have r1 := safeW_f b w
  have r2 := safeW_r b w
  have r3 := safeW_e b w
  have hs2 := safeW_size b w
  rw [hw2] at hbe r1 r2 r3 hs2
  have HS2 := Lib.hid hs2
  have HB := Lib.hid hbe
  have R1 := Lib.hid r1
  have R2 := Lib.hid r2
  have R3 := Lib.hid r3
  have c1 := r1.cell (i := 0) (by omega)
  have HF2 := Lib.hid (hf.of_below hbe)
  have HM := Lib.hid (may16 b wd _ hkd F Ls A m cap w2 HF2.out.c0 (hm.below hbe))
  obtain ⟨hmay, h5, h8⟩ := hyes
  have HMAY := Lib.hid hmay
  have hm1 := hmay.1.1
  have hk1 := hmay.2.1.1
  have HX2 := Lib.hid (hm.below hbe)
  obtain ⟨ad, A0, C0, rfl, hc0⟩ : ∃ ad A0 C0, A = some ad ∧ w2.cell? ad = some (.slice A0 (Ls 0) C0) := by
    obtain ⟨As, Cs, ha, _⟩ := hm.below hbe
    obtain ⟨ad, rfl, hc⟩ := ha.at_ (show 0 < m by omega)
    rw [show ad.add 0 = ad by simp [Addr.add]] at hc
    exact ⟨ad, _, _, rfl, hc⟩
  have HLS := Lib.hid (show ∀ r, r < m → Ls r = Ls 0 from fun r hr => (hmay.2.2 r hr).1)
  obtain ⟨k, hk⟩ : ∃ k, Ls 0 = k := ⟨_, rfl⟩
  have HK := Lib.hid hk
  rw [hk] at h8 hk1 hc0
  have hm0 : (0 : Int) < (m : Int) := by omega
  have e1 : decide ((5 : Int) < (m : Int)) = false := by simp; omega
  have e2 : decide ((8 : Int) < (k : Int)) = false := by simp; omega
  have HID := Lib.hid (fun w => identity_yes k ⟨hk1, by omega⟩ w)
  have HMJ := Lib.hid (show mayP (M.ord q.p) k (fun _ => k) idF from ⟨⟨hk1, by omega⟩, ⟨hk1, by dsimp only; omega⟩, fun r _ => ⟨rfl, fun j _ => by unfold idF; split <;> omega⟩⟩)
  have KC := Lib.hid (show ∀ w', Below w2.heap.size w2 w' → w'.cell? ⟨b, 0, none⟩ = some (.int .i64 wd) ∧ Mx b w' F Ls (some ad) m from fun w' h => ⟨(HF2.out.of_below h).c0, HX2.out.below h⟩)
  unfold safeW at hw2
  clear r1 r2 r3 hbe hm hf hmay hk hs2
  refine (callsIn_wide (n := 5)).1 ?_
  refine callsIn_of_wp_marks Tryz.func21 rfl trivial ?_ rfl
  simp only [Tryz.ntmps21, List.size_toArray, List.length_cons, List.length_nil, Nat.reduceAdd, Nat.reduceSub, Array.replicate_succ, Array.replicate_zero, List.push_toArray, List.append_toArray, List.nil_append, List.cons_append]
  gi_wp2_with fail
  refine ⟨trivial, (callsIn_wide.2 HM.out).mono ?_⟩
  rintro e w' ⟨t, rfl, ht, rfl⟩
  obtain rfl : t = true := ht.2 HMAY.out
  clear ht HM
  gi_wp2_with fail
  refine wpIn_wide.2 ?_
  have KS := Lib.hid (show ∀ w', Below w2.heap.size w2 w' → w'.cell? ⟨w.heap.size, 0, none⟩ = some (.pointer (some ⟨b, 0, none⟩)) from fun w' h => (h.cell (lt_of_cell c1)).trans c1)
  have HJ := Lib.hid (fun AI cI X (h : Below w2.heap.size w2 X) (h1 : Mx b X idF (fun _ => k) AI k) => join_id b wd _ k m hkd F Ls AI (some ad) cI cap X HMJ.out HMAY.out HK.out (by omega) (KC.out X h).1 h1 (KC.out X h).2)
  have hS : Below w2.heap.size w2 w2.drew := (Below.refl _ w2).drew
  go_cut [7, 8] from 32 to 39 (fun s7 s8 wr => WholeAt b k m F w2 s7 s8 wr)
  case first =>
    refine region_plain (fun w' => Below w2.heap.size w2 w') 11 rfl (by kernel_rfl) ?_
    refine takeL (i := 0) (v := .pointer (some ⟨b, 0, none⟩)) rfl (by kernel_rfl) (by kernel_rfl) (by kernel_rfl) rfl (fun w' hSw => ?tk0) hS ?_
    case tk0 =>
      have := KS.out w' hSw
      go_simp
    simp only [Act.put, List.setIfInBounds_toArray, List.set_cons_zero, List.set_cons_succ]
    refine takeL (i := 1) (v := .int .i64 k) rfl (by kernel_rfl) (by kernel_rfl) (by kernel_rfl) rfl (fun w' hSw => ?tk1) hS ?_
    case tk1 => go_simp
    simp only [Act.put, List.setIfInBounds_toArray, List.set_cons_zero, List.set_cons_succ]
    refine takeL (i := 3) (v := .slice (some ad) m cap) rfl (by kernel_rfl) (by kernel_rfl) (by kernel_rfl) rfl (fun w' hSw => ?tk3) hS ?_
    case tk3 => go_simp
    simp only [Act.put, List.setIfInBounds_toArray, List.set_cons_zero, List.set_cons_succ]
    refine stepL2 (i := 2) (j := 8) (by kernel_rfl) rfl rfl rfl rfl (fun K hK => ?br2) (fun K hK => ?br8)
    case br2 =>
      go_simp
      refine (HID.out _).mono ?_
      rintro e w4 ⟨v, rfl, AI, cI, rfl, _, hxI, hb4⟩
      have hS4 := below_tr hS hb4
      have HXI := Lib.hid (hxI b (by have := HS2.out; show b < w2.heap.size; omega))
      clear hxI hb4
      dsimp only
      refine hK _ _ hS4 ?_
      clear hK K
      try simp only [Act.put, List.setIfInBounds_toArray, List.set_cons_zero, List.set_cons_succ]
      refine stepL2 (i := 4) (j := 8) (by kernel_rfl) rfl rfl rfl rfl (fun K hK => ?br4) (fun K hK => ?bb8)
      case br4 =>
        go_simp
        refine (HJ.out AI cI w4 hS4 HXI.out).mono ?_
        rintro e w5 ⟨A5, c5, rfl, hx5, hb5⟩
        have hS5 := below_tr hS4 hb5
        have HX5 := Lib.hid (hx5 b (by have := HS2.out; have := hS4.size; omega))
        have HE := Lib.hid (whole_done (c := c5) (box_new w5) hS5.size (HX5.out.fresh.below (below_alloc w5 _)) (HX5.out.below (below_alloc w5 _)) (hS5.alloc hS5.size _))
        rw [World.setCell_alloc_new, show (#[nilS] : Array Value).setIfInBounds 0 (.slice A5 (k + m) c5) = #[.slice A5 (k + m) c5] by simp] at HE
        clear hx5 hb5
        dsimp only
        refine hK _ _ hS5 ?_
        clear hK K
        try simp only [Act.put, List.setIfInBounds_toArray, List.set_cons_zero, List.set_cons_succ]
        refine takeL (i := 5) (v := .tuple #[.slice A5 (k + m) c5, .int .i64 0]) rfl (by kernel_rfl) (by kernel_rfl) (by kernel_rfl) rfl (fun w' hSw => ?_) hS5 ?_
        · go_simp
        try simp only [Act.put, List.setIfInBounds_toArray, List.set_cons_zero, List.set_cons_succ]
        refine takeL (i := 6) (v := .slice A5 (k + m) c5) rfl (by kernel_rfl) (by kernel_rfl) (by kernel_rfl) rfl (fun w' hSw => ?_) hS5 ?_
        · go_simp
        try simp only [Act.put, List.setIfInBounds_toArray, List.set_cons_zero, List.set_cons_succ]
        refine takeL (i := 7) (v := .int .i64 0) rfl (by kernel_rfl) (by kernel_rfl) (by kernel_rfl) rfl (fun w' hSw => ?_) hS5 ?_
        · go_simp
        try simp only [Act.put, List.setIfInBounds_toArray, List.set_cons_zero, List.set_cons_succ]
        refine stepL (i := 8) (by kernel_rfl) rfl rfl (fun K hK => ?_)
        go_simp
        have hS6 := hS5.alloc hS5.size (.cells #[nilS] TM)
        refine hK _ _ hS6 ?_
        clear hK K
        try simp only [Act.put, List.setIfInBounds_toArray, List.set_cons_zero, List.set_cons_succ]
        refine stepL (i := 9) (by kernel_rfl) rfl rfl (fun K hK => ?_)
        have g1 := (box_new w5).cell (i := 0) (by omega)
        have f1 := (box_new w5).frozen 0
        have hS7 : Below w2.heap.size w2 (w5.alloc (.cells #[.slice A5 (k + m) c5] TM)) := hS5.alloc hS5.size _
        go_simp
        refine hK _ _ hS7 ?_
        clear hK K
        try simp only [Act.put, List.setIfInBounds_toArray, List.set_cons_zero, List.set_cons_succ]
        refine takeL (i := 10) (v := .int .i64 0) rfl (by kernel_rfl) (by kernel_rfl) (by kernel_rfl) rfl (fun w' hSw => ?_) hS7 ?_
        · go_simp
        try simp only [Act.put, List.setIfInBounds_toArray, List.set_cons_zero, List.set_cons_succ]
        refine wpAnyH_done (by kernel_rfl) ?_ _
        dsimp only [OnlyN]
        go_wp2_with fail
        go_meet
        case rel => exact HE.out
      case bb8 =>
        have hS4' := hS4.alloc hS4.size (.cells #[nilS] TM)
        have rb := box_new w4
        go_simp
        refine hK _ _ hS4' ?_
        clear hK K
        try simp only [Act.put, List.setIfInBounds_toArray, List.set_cons_zero, List.set_cons_succ]
        refine stepL (i := 4) (by kernel_rfl) rfl rfl (fun K hK => ?_)
        go_simp
        refine (HJ.out AI cI _ hS4' (HXI.out.below (below_alloc w4 _))).mono ?_
        rintro e w5 ⟨A5, c5, rfl, hx5, hb5⟩
        have hS5 := below_tr hS4' hb5
        have rb5 := rb.of_block (hb5.block _ rb.lt)
        have HE := Lib.hid (whole_done (c := c5) rb5 hS4.size (hx5 _ (by simp)) (hx5 b (by have := HS2.out; have := hS4.size; simp; omega)) hS5)
        have g1 := rb5.cell (i := 0) (by omega)
        have f1 := rb5.frozen 0
        have hS7 := hS5.setCell (p := ⟨w4.heap.size, 0, none⟩) hS4.size (.slice A5 (k + m) c5)
        clear hx5 hb5 rb rb5
        dsimp only
        refine hK _ _ hS5 ?_
        clear hK K
        try simp only [Act.put, List.setIfInBounds_toArray, List.set_cons_zero, List.set_cons_succ]
        refine takeL (i := 5) (v := .tuple #[.slice A5 (k + m) c5, .int .i64 0]) rfl (by kernel_rfl) (by kernel_rfl) (by kernel_rfl) rfl (fun w' hSw => ?_) hS5 ?_
        · go_simp
        try simp only [Act.put, List.setIfInBounds_toArray, List.set_cons_zero, List.set_cons_succ]
        refine takeL (i := 6) (v := .slice A5 (k + m) c5) rfl (by kernel_rfl) (by kernel_rfl) (by kernel_rfl) rfl (fun w' hSw => ?_) hS5 ?_
        · go_simp
        try simp only [Act.put, List.setIfInBounds_toArray, List.set_cons_zero, List.set_cons_succ]
        refine takeL (i := 7) (v := .int .i64 0) rfl (by kernel_rfl) (by kernel_rfl) (by kernel_rfl) rfl (fun w' hSw => ?_) hS5 ?_
        · go_simp
        try simp only [Act.put, List.setIfInBounds_toArray, List.set_cons_zero, List.set_cons_succ]
        refine stepL (i := 9) (by kernel_rfl) rfl rfl (fun K hK => ?_)
        go_simp
        refine hK _ _ hS7 ?_
        clear hK K
        try simp only [Act.put, List.setIfInBounds_toArray, List.set_cons_zero, List.set_cons_succ]
        refine takeL (i := 10) (v := .int .i64 0) rfl (by kernel_rfl) (by kernel_rfl) (by kernel_rfl) rfl (fun w' hSw => ?_) hS7 ?_
        · go_simp
        try simp only [Act.put, List.setIfInBounds_toArray, List.set_cons_zero, List.set_cons_succ]
        refine wpAnyH_done (by kernel_rfl) ?_ _
        dsimp only [OnlyN]
        go_wp2_with fail
        go_meet
        case rel => exact HE.out
    case br8 =>
      have hS' := hS.alloc hS.size (.cells #[nilS] TM)
      have rb := box_new w2.drew
      go_simp
      refine hK _ _ hS' ?_
      clear hK K
      try simp only [Act.put, List.setIfInBounds_toArray, List.set_cons_zero, List.set_cons_succ]
      refine stepL (i := 2) (by kernel_rfl) rfl rfl (fun K hK => ?_)
      go_simp
      refine (HID.out _).mono ?_
      rintro e w4 ⟨v, rfl, AI, cI, rfl, _, hxI, hb4⟩
      have hS4 := below_tr hS' hb4
      have HXI := Lib.hid (hxI b (by have := HS2.out; simp; omega))
      have rb4 := rb.of_block (hb4.block _ rb.lt)
      have hlt4 : w2.heap.size < w4.heap.size := rb4.lt
      clear hxI hb4
      dsimp only
      refine hK _ _ hS4 ?_
      clear hK K
      try simp only [Act.put, List.setIfInBounds_toArray, List.set_cons_zero, List.set_cons_succ]
      refine stepL (i := 4) (by kernel_rfl) rfl rfl (fun K hK => ?_)
      go_simp
      refine (HJ.out AI cI w4 hS4 HXI.out).mono ?_
      rintro e w5 ⟨A5, c5, rfl, hx5, hb5⟩
      have hS5 := below_tr hS4 hb5
      have rb5 : w5.rowIs w2.heap.size TM 1 (fun _ => nilS) := rb4.of_block (hb5.block _ rb4.lt)
      have HE := Lib.hid (whole_done (c := c5) rb5 (Nat.le_refl _) (hx5 _ hlt4) (hx5 b (by have := HS2.out; omega)) hS5)
      have g1 := rb5.cell (i := 0) (by omega)
      have f1 := rb5.frozen 0
      have hS7 := hS5.setCell (p := ⟨w2.heap.size, 0, none⟩) (Nat.le_refl _) (.slice A5 (k + m) c5)
      clear hx5 hb5 rb rb4 rb5
      dsimp only
      refine hK _ _ hS5 ?_
      clear hK K
      try simp only [Act.put, List.setIfInBounds_toArray, List.set_cons_zero, List.set_cons_succ]
      refine takeL (i := 5) (v := .tuple #[.slice A5 (k + m) c5, .int .i64 0]) rfl (by kernel_rfl) (by kernel_rfl) (by kernel_rfl) rfl (fun w' hSw => ?_) hS5 ?_
      · go_simp
      try simp only [Act.put, List.setIfInBounds_toArray, List.set_cons_zero, List.set_cons_succ]
      refine takeL (i := 6) (v := .slice A5 (k + m) c5) rfl (by kernel_rfl) (by kernel_rfl) (by kernel_rfl) rfl (fun w' hSw => ?_) hS5 ?_
      · go_simp
      try simp only [Act.put, List.setIfInBounds_toArray, List.set_cons_zero, List.set_cons_succ]
      refine takeL (i := 7) (v := .int .i64 0) rfl (by kernel_rfl) (by kernel_rfl) (by kernel_rfl) rfl (fun w' hSw => ?_) hS5 ?_
      · go_simp
      try simp only [Act.put, List.setIfInBounds_toArray, List.set_cons_zero, List.set_cons_succ]
      refine stepL (i := 9) (by kernel_rfl) rfl rfl (fun K hK => ?_)
      go_simp
      refine hK _ _ hS7 ?_
      clear hK K
      try simp only [Act.put, List.setIfInBounds_toArray, List.set_cons_zero, List.set_cons_succ]
      refine takeL (i := 10) (v := .int .i64 0) rfl (by kernel_rfl) (by kernel_rfl) (by kernel_rfl) rfl (fun w' hSw => ?_) hS7 ?_
      · go_simp
      try simp only [Act.put, List.setIfInBounds_toArray, List.set_cons_zero, List.set_cons_succ]
      refine wpAnyH_done (by kernel_rfl) ?_ _
      dsimp only [OnlyN]
      go_wp2_with fail
      go_meet
      case rel => exact HE.out
  case rest =>
    obtain ⟨bw, A3, c3, rfl, rfl, hbw, hcw, hx3, hb3⟩ := hcut
    have HX3 := Lib.hid hx3
    have HB3 := Lib.hid hb3
    have c1' := KS.out _ hb3
    have hsz3 := hb3.size
    have hbwl := lt_of_cell hcw
    clear hx3 HJ HID KC hS c1 hc0
    gi_wp2_with fail
    refine ⟨trivial, (callsIn_wide.2 (choices35 (k + m) k wc)).mono ?_⟩
    rintro e w6 ⟨rfl, hw6⟩
    have hb6 : Below wc.heap.size wc w6 := by rw [← hw6]; exact (below_alloc wc _).alloc (by simp) _
    have hs6 : w6.heap.size = wc.heap.size + 2 := by rw [← hw6]; simp
    have x1 : w6.cell? ⟨wc.heap.size, 0, none⟩ = some (.int .i64 ((k + m : Nat) : Int)) := by rw [← hw6]; simp
    have x2 : w6.cell? ⟨wc.heap.size + 1, 0, none⟩ = some (.int .i64 k) := by rw [← hw6]; simp
    have HB6 := Lib.hid (below_tr hb3 hb6)
    have HF6 := Lib.hid (HF2.out.of_below HB6.out)
    have HX6 := Lib.hid (HX3.out.below hb6)
    have y1 : w6.cell? ⟨w.heap.size, 0, none⟩ = some (.pointer (some ⟨b, 0, none⟩)) := KS.out _ HB6.out
    have y2 : w6.cell? ⟨bw, 0, none⟩ = some (.slice A3 (k + m) c3) := (hb6.cell hbwl).trans hcw
    have HR2 := Lib.hid (R2.out.of_block (HB6.out.block _ R2.out.lt))
    have HR3 := Lib.hid (R3.out.of_block (HB6.out.block _ R3.out.lt))
    have HT6 := Lib.hid (show Turned b w w6 from Turned.of_below (below_tr HB.out HB6.out))
    have hs2 := HS2.out
    have hb4 : w.heap.size + 1 < w6.heap.size := HR2.out.lt
    have hb5 : w.heap.size + 1 + 1 < w6.heap.size := HR3.out.lt
    have hwl : w.heap.size ≤ w6.heap.size := by omega
    have HMW := Lib.hid (show mayP (M.ord q.p) (k + m) (fun _ => k) (joinF k idF F) from ⟨⟨by omega, by omega⟩, ⟨hk1, by dsimp only; omega⟩, fun r hr => ⟨rfl, fun j hj => by
      unfold joinF
      split
      · exact (HMJ.out.2.2 r (by omega)).2 j hj
      · exact (HMAY.out.2.2 (r - k) (by omega)).2 j (by rw [HLS.out _ (by omega), HK.out]; exact hj)⟩⟩)
    have HGC := Lib.hid (fun l => good_join (q := q) (k := k) F l)
    have HYS := Lib.hid (show safeP (M.ord q.p) m Ls F from ⟨HMAY.out, h5, by rw [HK.out]; exact h8⟩)
    clear hw6 hcw hb3 c1' hb6 hw2 hs2 HMAY HMJ HX2 HX3 HB3 HF2 R1 R2 R3 HB KS HB6
    gi_wp2_with fail
    refine' range_leave (by omega) (gf := 72) (lb := #[.pointer (some ⟨wc.heap.size + 1, 0, none⟩), .pointer (some ⟨wc.heap.size, 0, none⟩)]) rfl (enters_of Tryz.func72 (by kernel_rfl) rfl)
      (encs := fun x : Option Addr × Nat => #[.slice x.1 k x.2]) (fun _ => rfl) (choices_hand 4 b (wc.heap.size + 1) wc.heap.size k (k + m) hk1 (by omega) (by omega) (by omega) (fun W hT => by have := lt_of_cell hT.1; dsimp only at *; omega))
      (fun l W => SafI q b wd w6 W ∧ SafeTo q k m (elM q F) l) (fun l W => SafI q b wd w6 W ∧ SafeTo q k m (elM q F) l ∧ GoodCh q k (elM q F) l) (SafX q b wd k m F w)
      (fun l W h => ?hit) (fun l W h => ?hmt) (fun l X Y h hb => ⟨h.1.soft hb, h.2⟩) (fun l X Y h hb => ⟨h.1.soft hb, h.2⟩) (fun X Y h hb => h.soft hb hwl hb4 hb5) (fun l l' X h hn => ?hmi) (fun l x X r o o' h ho hc => ⟨h.1, h.2.put ho hc⟩) ⟨⟨HF6.out, Turned.refl _ _⟩, safeTo_first _ _ _⟩ _ ?assign ?body ?done ?stop
    case hit => exact h.1.told x1 x2 (by omega)
    case hmt => exact h.1.told x1 x2 (by omega)
    case hmi =>
      obtain ⟨i, hi, rfl⟩ := hn
      exact ⟨h.1, safeTo_next h.2.1 h.2.2 hi⟩
    case assign =>
      intro l x W K hK
      gi_wp2_with fail
      exact hK
    case body =>
      intro l ch x W hI hX
      obtain ⟨⟨hf, ht⟩, hTo⟩ := hI
      have HT := Lib.hid ht
      have HTO := Lib.hid hTo
      have HXC := Lib.hid hX
      have z1 := (ht.cell (q := ⟨w.heap.size, 0, none⟩) (lt_of_cell y1) (by simp; omega)).trans y1
      have z2 := (ht.cell (q := ⟨bw, 0, none⟩) (lt_of_cell y2) (by have := HS2.out; simp; omega)).trans y2
      have HH := Lib.hid (have36 q b wd (k + m) k (joinF k idF F) A3 x.1 c3 x.2 ch HMW.out (fun r hr => hX.1.1 r hr) W hf (HX6.out.turned ht) hX.2)
      clear hf ht hTo hX
      try dsimp only
      gi_wp2_with fail
      refine ⟨trivial, (CallsIn.inRound l (callsIn_wide.2 HH.out)).mono ?_⟩
      rintro e W' ⟨t, rfl, hgt, hf', ht'⟩
      rw [HGC.out ch] at hgt
      have htt := HT.out.trans ht'
      have r4 := htt.row HR2.out (by omega)
      have r5 : W'.rowIs (w.heap.size + 1 + 1) TEr 1 (fun _ => .int .i64 0) := htt.row HR3.out (by omega)
      cases t
      · have g4 := r4.cell (i := 0) (by omega)
        have g5 := r5.cell (i := 0) (by omega)
        have f4 := r4.frozen 0
        have f5 := r5.frozen 0
        have HE := Lib.hid (show KeptFrom w6.heap.size W ((W'.setCell ⟨w.heap.size + 1, 0, none⟩ (.bool false)).setCell ⟨w.heap.size + 1 + 1, 0, none⟩ (.int .i64 0)) ∧ SafX q b wd k m F w ((W'.setCell ⟨w.heap.size + 1, 0, none⟩ (.bool false)).setCell ⟨w.heap.size + 1 + 1, 0, none⟩ (.int .i64 0)) from
          ⟨((KeptFrom.of_turned ht' (by omega)).setCell hb4 _).setCell hb5 _, (hf'.setRow r4 (by decide) (by decide) _).setRow (r5.setOther (a := ⟨w.heap.size + 1, 0, none⟩) (by simp) _) (by decide) (by decide) _,
            ((HT6.out.trans htt).set_new (by omega) _).set_new (by omega) _, by rw [World.cell?_setCell_other _ _ _ _ (by simp), World.cell?_setCell_same _ _ _ g4], World.cell?_setCell_same _ _ _ (by rw [World.cell?_setCell_other _ _ _ _ (by simp)]; exact g5),
            fun hs => by have := hgt.2 (hs ch HXC.out.1); cases this⟩)
        clear r4 r5 htt ht' hf' hgt z1 z2 HH
        gi_wp2_with fail
        exact HE.out
      · have HE := Lib.hid (show KeptFrom w6.heap.size W W' ∧ SafI q b wd w6 W' ∧ SafeTo q k m (elM q F) ch ∧ GoodCh q k (elM q F) ch from ⟨KeptFrom.of_turned ht' (by omega), ⟨hf', htt⟩, HTO.out, hgt.1 rfl⟩)
        clear r4 r5 htt ht' hf' hgt z1 z2 HH
        gi_wp2_with fail
        exact HE.out
    case done =>
      rintro D ch W hD hfin ⟨⟨hf, ht⟩, hTo, hG⟩ hK
      have r4 := ht.row HR2.out (by omega)
      have r5 : W.rowIs (w.heap.size + 1 + 1) TEr 1 (fun _ => .int .i64 0) := ht.row HR3.out (by omega)
      have g4 := r4.cell (i := 0) (by omega)
      have g5 := r5.cell (i := 0) (by omega)
      have f4 := r4.frozen 0
      have f5 := r5.frozen 0
      obtain ⟨w9, hw9⟩ : ∃ w9, (W.setCell ⟨w.heap.size + 1, 0, none⟩ (.bool true)).setCell ⟨w.heap.size + 1 + 1, 0, none⟩ (.int .i64 0) = w9 := ⟨_, rfl⟩
      have hk9 : w9.heap[D]? = some (.deferred (some [])) := by
        rw [← hw9]
        simp only [World.setCell, Array.getElem?_modify]
        rw [if_neg (by omega), if_neg (by omega)]
        exact hK
      have hf9 : Fld q.p b wd w9 := by rw [← hw9]; exact (hf.setRow r4 (by decide) (by decide) _).setRow (r5.setOther (a := ⟨w.heap.size + 1, 0, none⟩) (by simp) _) (by decide) (by decide) _
      have ht9 : Turned b w w9 := by rw [← hw9]; exact ((HT6.out.trans ht).set_new (by omega) _).set_new (by omega) _
      have d4 : w9.cell? ⟨w.heap.size + 1, 0, none⟩ = some (.bool true) := by rw [← hw9, World.cell?_setCell_other _ _ _ _ (by simp), World.cell?_setCell_same _ _ _ g4]
      have d5 : w9.cell? ⟨w.heap.size + 1 + 1, 0, none⟩ = some (.int .i64 0) := by
        rw [← hw9]
        exact World.cell?_setCell_same _ _ _ (by rw [World.cell?_setCell_other _ _ _ _ (by simp)]; exact g5)
      have hso : Soft w6.heap.size w9 (w9.putObj D (.deferred none)) := Soft.put hD hk9 rfl _
      have HE := Lib.hid (show SafeSaid q b wd m Ls F w (.returned (.tuple #[.bool true, .int .i64 0])) (w9.putObj D (.deferred none)) from
        ⟨true, true, rfl, by simp [HYS.out], by simp; rw [HK.out]; exact safeTo_last hTo hG hfin, hso.fld hf9, hso.turned ht9 hwl⟩)
      have p4 := (World.cell?_of_block (hso.at_ (k := (⟨w.heap.size + 1, 0, none⟩ : Addr).block) hb4 (lt_of_cell d4))).trans d4
      have p5 := (World.cell?_of_block (hso.at_ (k := (⟨w.heap.size + 1 + 1, 0, none⟩ : Addr).block) hb5 (lt_of_cell d5))).trans d5
      clear r4 r5 hf ht hTo hG hfin hf9 ht9 d4 d5 hso hK
      gi_wp2_with fail
      refine ⟨by simp, .inl ⟨_, _, rfl, run_takeDeferred hk9, ?_⟩⟩
      exact ⟨_, results_cells2 rfl _ _ _ rfl rfl aggBl aggEr p4 p5, HE.out⟩
    case stop =>
      rintro D W hD ⟨hf, ht, d4, d5, hns⟩ hk9
      have hso : Soft w6.heap.size W (W.putObj D (.deferred none)) := Soft.put hD hk9 rfl _
      have HE := Lib.hid (show SafeSaid q b wd m Ls F w (.returned (.tuple #[.bool false, .int .i64 0])) (W.putObj D (.deferred none)) from
        ⟨true, false, rfl, by simp [HYS.out], by simp; rw [HK.out]; exact hns, hso.fld hf, hso.turned ht hwl⟩)
      have p4 := (World.cell?_of_block (hso.at_ (k := (⟨w.heap.size + 1, 0, none⟩ : Addr).block) hb4 (lt_of_cell d4))).trans d4
      have p5 := (World.cell?_of_block (hso.at_ (k := (⟨w.heap.size + 1 + 1, 0, none⟩ : Addr).block) hb5 (lt_of_cell d5))).trans d5
      clear hf ht hns d4 d5 hso
      gi_wp2_with fail
      refine ⟨by simp, .inl ⟨_, _, rfl, run_takeDeferred hk9, ?_⟩⟩
      exact ⟨_, results_cells2 rfl _ _ _ rfl rfl aggBl aggEr p4 p5, HE.out⟩

theorem safe_any (q : FP) (b wd m : Nat) (Ls : Nat → Nat) (F : Nat → Nat → Int) (A : Option Addr) (cap : Nat) (w : World) (hf : Fld q.p b wd w) (hm : Mx b w F Ls A m) :
    Calls Tryz.prog 21 #[.pointer (some ⟨b, 0, none⟩), .slice A m cap] w (SafeSaid q b wd m Ls F w) := by
  by_cases h : safeP (M.ord q.p) m Ls F
  · exact safe_yes q b wd m Ls F A cap w hf hm h
  · exact safe_no q b wd m Ls F A cap w hf hm h
end Go.Proofs.YtdidlfeolbcblaaGreatDoor
