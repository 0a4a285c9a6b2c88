/- The contracts of package cauchy: moveOn, haveInverse. A law of a range over a function whose body may return; the contracts of package cauchy's choices and haveInverse. The contract of package cauchy's Safe. -/
import Derived.Test.YtgbipbcejjlpiaaGreatDoorGxs
import Derived.Laws.CopyRow
import Derived.Deep.RegionLaw
import Derived.Test.YtgbipbcejjlpiaaGreatDoorRfh
import Derived.Deep.Cut
import Derived.Deep.CutRange

namespace Go.Proofs.YtgbipbcejjlpiaaGreatDoor
open Go.RowKit

/-- a row is written over from place off on -/
def over (off : Nat) (f h : Nat → Value) (j : Nat) : Value := if j < off then f j else h (j - off)
/-- copy, into a row that is known whole, as one step of a region that draws -/
theorem step_copy_over {ops : Array Oper} {o : Oper} {a : Act} {w : World} {K : Act → World → Prop} {Q : Exit → Act → World → Prop} {E : Prop} (hgd : o.guard = none) (d s : Operand)
    (ho : o.op = .call { callee := .builtin .copy, args := #[d, s], argTypes := #[TIs, TIs] }) (g off n dCap g2 sCap k : Nat) (hd : a.eval d = .slice (some ⟨g, off, none⟩) n dCap) (hs : a.eval s = .slice (some ⟨g2, 0, none⟩) n sCap)
    (f h : Nat → Value) (hrow : w.rowIs g TI k f) (hsrc : w.rowIs g2 TI n h) (hone : ∀ j, (h j).oneCell' = true) (hoff : off + n = k)
    (hK : ∀ w', w'.rowIs g TI k (over off f h) → Turned g w w' → K (a.put o.dst (goInt n)) w') :
    if Region.wanted o (yielded ops a.tmps) = true then Oper.wp Tryz.prog o a w K Q else E := by
  have hw : Region.wanted o (yielded ops a.tmps) = true := by simp [Region.wanted, hgd]
  rw [if_pos hw]
  obtain ⟨c, hc1, hc2, hc3⟩ := hrow
  have hsz : (Tryz.prog.info? TI).map (·.size) = some 1 := by kernel_rfl
  have hlen : ((List.range n).map h).length = n := by simp
  have hrun := run_copy_row (P := Tryz.prog) w TIs TIs o.type TI g off n dCap ⟨g2, 0, none⟩ n sCap c TI ((List.range n).map h) underI hsz hc1 (by simp) (fun j v hj => by
    have hjn : j < n := by
      rcases Nat.lt_or_ge j n with e | e
      · exact e
      · rw [List.getElem?_eq_none (by simp; omega)] at hj
        cases hj
    rw [List.getElem?_map, List.getElem?_range hjn] at hj
    simp at hj
    subst hj
    have := hsrc.cell hjn
    rw [show (⟨g2, 0, none⟩ : Addr).add j = ⟨g2, j, none⟩ by unfold Addr.add; split <;> simp_all]
    exact this) (by rw [hlen]; omega) (fun v hv => by
    obtain ⟨j, _, rfl⟩ := List.mem_map.1 hv
    exact hone j)
  rw [hlen] at hrun
  unfold Oper.wp
  simp [execOp, ho, resolve, invoke, builtin, hd, hs, hrun, Result.andThen]
  have hdrop : List.drop (off + n) c.toList = [] := List.drop_eq_nil_of_le (by simp; omega)
  refine hK (w.setRow g (c.toList.take off ++ ((List.range n).map h ++ c.toList.drop (off + n))).toArray) ?_ ?_
  · refine ⟨_, setRow_heap w g _ _ TI _ hc1, ?_, fun i hi => ?_⟩
    · simp
      omega
    · rw [List.getElem?_toArray, hdrop, List.append_nil, List.getElem?_append]
      have htl : (c.toList.take off).length = off := by simp; omega
      unfold over
      by_cases e : i < off
      · rw [if_pos (by omega), if_pos e, List.getElem?_take, if_pos e, Array.getElem?_toList]
        exact hc3 i hi
      · rw [if_neg (by omega), if_neg e, htl, List.getElem?_map, List.getElem?_range (by omega)]
        rfl
  · exact ⟨rfl, rfl, rfl, by simp [World.setRow], fun q _ hq => setRow_other w g q _ (by omega)⟩

/-- a choice of rows, as it lies there -/
def chs (l : Nat → Nat) (j : Nat) : Value := .int .i64 ((l j : Nat) : Int)
/-- what moveOn tells -/
def MoveSaid (k n g : Nat) (l : Nat → Nat) (w : World) (e : Ending) (w' : World) : Prop :=
  (∃ i, MovesAt k n l i ∧ e = .returned (.bool true) ∧ w'.rowIs g TI k (chs (nxt l i)) ∧ Turned g w w') ∨ ((∀ r, r < k → n + r ≤ l r + k) ∧ e = .returned (.bool false) ∧ w = w')
theorem over_nxt {l : Nat → Nat} {i : Nat} (j : Nat) : over i (chs l) (i64s (frm (l i + 1))) j = chs (nxt l i) j := by
  unfold over chs i64s frm nxt
  split <;> rfl
/-- in moveOn's loop: none behind place i can move -/
def MvAt (k n : Nat) (l : Nat → Nat) (s5 : Value) : Prop := ∃ i : Nat, i ≤ k ∧ s5 = .int .i64 ((i : Int) - 1) ∧ ∀ r, i ≤ r → r < k → n + r ≤ l r + k
end Go.Proofs.YtgbipbcejjlpiaaGreatDoor

namespace Go.Proofs.YtgbipbcejjlpiaaGreatDoor
open Go.RowKit Go.Shelf
attribute [local go_sem] Oper.semAt_some

/-- a block that an iterator may write, or the law itself: an int's row, or no cells at all -/
def SoftAt (A : World) (k : Nat) : Prop := ∃ o, A.heap[k]? = some o ∧ (o.isCells = false ∨ ∃ cs fr, o = .cells cs TI fr)
/-- nothing has turned but, from block B on, blocks that may -/
structure Soft (B : Nat) (A A' : World) : Prop where
  low : Below 0 A A'
  block : ∀ k, k < A.heap.size → A'.heap[k]? = A.heap[k]? ∨ (B ≤ k ∧ SoftAt A k)
theorem Soft.at_ {B : Nat} {A A' : World} (h : Soft B A A') {k : Nat} (hk : k < B) (hs : k < A.heap.size) : A'.heap[k]? = A.heap[k]? := by
  rcases h.block k hs with e | e
  · exact e
  · omega
theorem Soft.of_below {B : Nat} {A A' : World} (h : Below A.heap.size A A') : Soft B A A' := ⟨h.mono (Nat.zero_le _), fun k hk => Or.inl (h.block k hk)⟩
theorem Soft.of_turned {B g k : Nat} {A A' : World} {f : Nat → Value} (h : Turned g A A') (hg : B ≤ g) (hr : A.rowIs g TI k f) : Soft B A A' := ⟨⟨h.os, h.tape, h.output, h.size, fun _ hk => absurd hk (by omega)⟩, fun q hq => by
  by_cases e : q = g
  · subst e
    obtain ⟨c, hc, _⟩ := hr
    exact Or.inr ⟨hg, _, hc, Or.inr ⟨_, _, rfl⟩⟩
  · exact Or.inl (h.block q hq e)⟩
theorem Soft.put {B r : Nat} {A : World} {o : Obj} (hr : B ≤ r) (ho : A.heap[r]? = some o) (hc : o.isCells = false) (o' : Obj) : Soft B A (A.putObj r o') := ⟨⟨rfl, rfl, rfl, by simp, fun _ hk => absurd hk (by omega)⟩, fun q _ => by
  by_cases e : q = r
  · subst e
    exact Or.inr ⟨hr, _, ho, Or.inl hc⟩
  · exact Or.inl (World.putObj_heap_other e)⟩
theorem Soft.mono {B B' : Nat} {A A' : World} (h : Soft B A A') (hb : B' ≤ B) : Soft B' A A' := ⟨h.low, fun k hk => (h.block k hk).imp id (fun e => ⟨by omega, e.2⟩)⟩
theorem Soft.row {B : Nat} {A A' : World} (h : Soft B A A') {g t n : Nat} {f : Nat → Value} (hr : A.rowIs g t n f) (ht : t ≠ TI) : A'.rowIs g t n f := by
  rcases h.block g hr.lt with e | ⟨_, o, ho, hc⟩
  · exact hr.of_block e
  · obtain ⟨c, h1, _⟩ := hr
    rw [h1] at ho
    injection ho with ho
    subst ho
    rcases hc with hc | ⟨cs, fr, hc⟩
    · cases hc
    · injection hc with _ e
      exact absurd e ht
theorem Soft.fld {B p b wd : Nat} {A A' : World} (h : Soft B A A') (hf : Fld p b wd A) : Fld p b wd A' := by
  refine ⟨hf.1, ?_⟩
  rcases hf.2 with hr | ⟨g, l, g1, g2, h1, h2, h3⟩
  · exact Or.inl (h.row (show A.rowIs b TF 7 _ from hr) (by decide))
  · exact Or.inr ⟨g, l, g1, g2, h.row h1 (by decide), h.row h2 (by decide), h.row h3 (by decide)⟩
theorem Soft.turned {B b : Nat} {w A A' : World} (h : Soft B A A') (ht : Turned b w A) (hB : w.heap.size ≤ B) : Turned b w A' :=
  ⟨h.low.os.trans ht.os, h.low.tape.trans ht.tape, h.low.output.trans ht.output, Nat.le_trans ht.size h.low.size, fun k hk hb => (h.at_ (Nat.lt_of_lt_of_le hk hB) (Nat.lt_of_lt_of_le hk ht.size)).trans (ht.block k hk hb)⟩
theorem Rd.put {b r : Nat} {W : World} {o o' : Obj} {K : Nat → Value} {A : Option Addr} {n : Nat} (h : Rd b W K A n) (ho : W.heap[r]? = some o) (hc : o.isCells = false) : Rd b (W.putObj r o') K A n := fun hn => by
  obtain ⟨ad, h1, h2, h3, h4⟩ := h hn
  have hne : ad.block ≠ r := fun e => by
    have h5 := h4 0 hn
    rw [show ad.add 0 = ad by simp [Addr.add]] at h5
    subst e
    unfold World.cell? at h5
    rw [ho] at h5
    cases o <;> simp_all [Obj.isCells]
  exact ⟨ad, h1, h2, by simpa using h3, fun j hj => by
    rw [← h4 j hj]
    have hb : (ad.add j).block = ad.block := block_of_add ad j
    unfold World.cell?
    rw [hb, World.putObj_heap_other hne]⟩

/-- what an iterator owes that hands over one thing behind the other, from s0 on, as long as it is asked to -/
def HandsL (n : Nat) (P : Program) (gf : Nat) (lb : Array Value) {α σ : Type} (encs : α → Array Value) (T : World → Prop) (X : σ → α → World → Prop) (s0 : σ) (nx : σ → σ → Prop) (fin : σ → Prop) : Prop :=
  ∀ (l : Nat) (J Jm : σ → World → Prop) (Jx : World → Prop) (W : World), (∀ s A, J s A → T A) → (∀ s A, Jm s A → T A) → (∀ s A B, J s A → Soft W.heap.size A B → J s B) → (∀ s s' A B, Jm s A → nx s s' → Soft W.heap.size A B → J s' B) →
    (∀ s x A, J s A → X s x A → YieldAt Fence.wide (n - 1) P l (encs x) A fun e A' => (e = .returned (.bool true) ∧ Jm s A' ∧ KeptFrom W.heap.size A A') ∨ (e = .returned (.bool false) ∧ Jx A')) → J s0 W →
    CallsIn Fence.wide n P gf (#[.func (.yield l) #[] #[]] ++ lb) W fun e W' => (∃ v, e = .returned v) ∧ ((∃ s, fin s ∧ Jm s W') ∨ Jx W')

/-- a round's body has gone on, or has returned -/
def OnOrRet (B : Nat) (Im Ix : World → Prop) (W : World) : Exit → Act → World → Prop
  | .normal, _, W' => KeptFrom B W W' ∧ Im W'
  | .ret, _, W' => KeptFrom B W W' ∧ Ix W'
  | _, _, _ => False

theorem range_leave {P : Program} {n : Nat} {g : Operand} {ps : Array Tmp} {assign body : Code} {Q : Exit → Act → World → Prop} {a : Act} {w : World}
    (h1 : 1 ≤ n) {gf : Nat} {lb : Array Value} (hg : a.eval g = .func (.func gf) #[] lb) (eg : ∀ args w, (callFunc gf args).run P w = .ok (.enter gf args) w)
    {α σ : Type} {encs : α → Array Value} (hps : ∀ x, (encs x).size = ps.size) {T : World → Prop} {X : σ → α → World → Prop} {s0 : σ} {nx : σ → σ → Prop} {fin : σ → Prop} (hit : HandsL (n - 1) P gf lb encs T X s0 nx fin)
    (I Im : σ → World → Prop) (Ix : World → Prop) (hIT : ∀ s A, I s A → T A) (hmT : ∀ s A, Im s A → T A)
    (hIb : ∀ s A B, I s A → Soft w.heap.size A B → I s B) (hmb : ∀ s A B, Im s A → Soft w.heap.size A B → Im s B) (hxb : ∀ A B, Ix A → Soft w.heap.size A B → Ix B) (hmi : ∀ s s' A, Im s A → nx s s' → I s' A)
    (hXp : ∀ s x A r o o', X s x A → A.heap[r]? = some o → o.isCells = false → X s x (A.putObj r o')) (h0 : I s0 w) (a₁ : α → Act)
    (hassign : ∀ (l : Nat) (x : α) (W : World) (K : Act → World → Prop), K (a₁ x) W →
      assign.wpIn (Fence.wide.inRound l) (n - 1 - 1) P (Exit.then K (fun _ _ _ => False)) { tmps := (ps.zip (encs x)).foldl (fun t (p, v) => t.setIfInBounds p v) a.tmps, defers := [] } W)
    (hbody : ∀ (l : Nat) (s : σ) (x : α) (W : World), I s W → X s x W → body.wpIn (Fence.wide.inRound l) (n - 1 - 1) P (OnOrRet w.heap.size (Im s) Ix W) (a₁ x) W)
    (hdone : ∀ (D : Nat) (s : σ) (W : World), w.heap.size ≤ D → fin s → Im s W → W.heap[D]? = some (.deferred (some [])) → Q .normal { a with defers := { target := .collected D, args := #[] } :: a.defers } W)
    (hstop : ∀ (D : Nat) (W : World), w.heap.size ≤ D → Ix W → W.heap[D]? = some (.deferred (some [])) → Code.ret.wpIn Fence.wide n P Q { a with defers := { target := .collected D, args := #[] } :: a.defers } W) :
    (Code.rangeFunc g ps assign body).wpIn Fence.wide n P Q a w := by
  refine wpIn_rangeFunc ?_
  intro fn hfn
  obtain ⟨rc, hrc⟩ : ∃ rc : LoopState → Option Code → Loop, rc = fun st pe => { state := st, pending := pe, fn, tmps := a.tmps, params := ps, assign, body, defers := w.heap.size } := ⟨_, rfl⟩
  obtain ⟨W1, hW1⟩ : ∃ W1, (w.alloc (.deferred (some []))).alloc (.loop (rc .ready none)) = W1 := ⟨_, rfl⟩
  have hs1 : W1.heap.size = w.heap.size + 2 := by rw [← hW1]; simp
  have hL1 : W1.heap[w.heap.size + 1]? = some (.loop (rc .ready none)) := by
    rw [← hW1]; have := World.alloc_heap_new (w.alloc (.deferred (some []))) (.loop (rc .ready none)); rwa [World.size_alloc] at this
  have hK1 : W1.heap[w.heap.size]? = some (.deferred (some [])) := by
    rw [← hW1]; exact (Below.heap_alloc _ _ _ (by simp)).trans (World.alloc_heap_new w _)
  have hb1 : Below w.heap.size w W1 := by
    rw [← hW1]; exact ((Below.refl _ w).alloc (Nat.le_refl _) _).alloc (by simp) _
  refine ⟨w.heap.size + 1, [{ target := .collected w.heap.size, args := #[] }], W1, { target := .fn (.func gf) lb, args := #[.func (.yield (w.heap.size + 1)) #[] #[]] }, W1, gf,
    #[.func (.yield (w.heap.size + 1)) #[] #[]] ++ lb, W1, ?_, ?_, fun _ _ => trivial, ?_, fun _ => h1, ?_⟩
  · rw [← hW1, hrc]; exact run_enterLoop_outer _ _ _ _ _
  · simp only [resolve, hg]
    simp [go_sem]
  · simp [invoke, go_sem, eg]
  refine (hit (w.heap.size + 1) (fun s W => I s W ∧ W.heap[w.heap.size + 1]? = some (.loop (rc .ready none)) ∧ W.heap[w.heap.size]? = some (.deferred (some [])))
    (fun s W => Im s W ∧ W.heap[w.heap.size + 1]? = some (.loop (rc .ready none)) ∧ W.heap[w.heap.size]? = some (.deferred (some [])))
    (fun W => Ix W ∧ W.heap[w.heap.size + 1]? = some (.loop (rc .done (some .ret))) ∧ W.heap[w.heap.size]? = some (.deferred (some []))) W1
    (fun s A h => hIT s A h.1) (fun s A h => hmT s A h.1)
    (fun s A B h hb => ⟨hIb s A B h.1 (hb.mono (by omega)), (hb.at_ (by omega) (Array.getElem?_eq_some_iff.1 h.2.1).1).trans h.2.1, (hb.at_ (by omega) (Array.getElem?_eq_some_iff.1 h.2.2).1).trans h.2.2⟩)
    (fun s s' A B h hn hb => ⟨hIb s' A B (hmi s s' A h.1 hn) (hb.mono (by omega)), (hb.at_ (by omega) (Array.getElem?_eq_some_iff.1 h.2.1).1).trans h.2.1, (hb.at_ (by omega) (Array.getElem?_eq_some_iff.1 h.2.2).1).trans h.2.2⟩)
    ?_ ⟨hIb s0 w W1 h0 (Soft.of_below hb1), hL1, hK1⟩).mono ?_
  · rintro s x W ⟨hi, hl, hk⟩ hx
    have hlt : w.heap.size + 1 < W.heap.size := (Array.getElem?_eq_some_iff.1 hl).1
    have hy := run_yield (P := P) (args := encs x) hl (by rw [hrc]; exact hps x)
    rw [hrc] at hy
    refine ⟨fn, _, assign, body, hy, roundIn_of_wpIn hfn (hassign _ x W _ ?_)⟩
    refine ⟨_, run_beginRound hl (by rw [hrc]), ?_⟩
    have hl2 : (W.putObj (w.heap.size + 1) (.loop { rc .ready none with state := .busy })).heap[w.heap.size + 1]? = some (.loop { rc .ready none with state := .busy }) := World.putObj_heap_same hlt
    have hk2 : (W.putObj (w.heap.size + 1) (.loop { rc .ready none with state := .busy })).heap[w.heap.size]? = some (.deferred (some [])) := (World.putObj_heap_other (by omega)).trans hk
    refine wpIn_mono (hbody _ s x _ (hIb s W _ hi (Soft.put (by omega) hl rfl _)) (hXp s x W _ _ _ hx hl rfl)) ?_
    have fin : ∀ (jump : Option Code) (W3 : World), KeptFrom w.heap.size (W.putObj (w.heap.size + 1) (.loop { rc .ready none with state := .busy })) W3 →
        (Instr.endRound (w.heap.size + 1) jump).run P W3 = .ok (.bool jump.isNone) (W3.putObj (w.heap.size + 1) (.loop (rc (if jump.isNone then .ready else .done) jump))) ∧
        (W3.putObj (w.heap.size + 1) (.loop (rc (if jump.isNone then .ready else .done) jump))).heap[w.heap.size + 1]? = some (.loop (rc (if jump.isNone then .ready else .done) jump)) ∧
        (W3.putObj (w.heap.size + 1) (.loop (rc (if jump.isNone then .ready else .done) jump))).heap[w.heap.size]? = some (.deferred (some [])) ∧
        KeptFrom W1.heap.size W (W3.putObj (w.heap.size + 1) (.loop (rc (if jump.isNone then .ready else .done) jump))) ∧ W3.heap[w.heap.size + 1]? = some (.loop { rc .ready none with state := .busy }) := fun jump W3 hk3 => by
      have hl3 := (hk3.block (w.heap.size + 1) (by omega) (by simp; omega)).trans hl2
      have hk4 := (hk3.block w.heap.size (Nat.le_refl _) (by simp; omega)).trans hk2
      have hr := run_endRound (P := P) jump hl3
      have hsz := hk3.size
      rw [World.putObj_size] at hsz
      refine ⟨?_, World.putObj_heap_same (by omega), (World.putObj_heap_other (by omega)).trans hk4, ⟨by simpa using hsz, fun q hq hql => ?_⟩, hl3⟩
      · rw [hrc] at hr ⊢
        exact hr
      · rw [World.putObj_heap_other (by omega), hk3.block q (by omega) (by simpa using hql), World.putObj_heap_other (by omega)]
    rintro e a3 W3 hp
    cases e with
    | normal =>
      obtain ⟨hk3, hi3⟩ := hp
      obtain ⟨hr, hl4, hk4, hkf, hl3⟩ := fin none W3 hk3
      exact ⟨_, _, hr, Or.inl ⟨rfl, ⟨hmb s W3 _ hi3 (Soft.put (by omega) hl3 rfl _), hl4, hk4⟩, hkf⟩⟩
    | ret =>
      obtain ⟨hk3, hi3⟩ := hp
      obtain ⟨hr, hl4, hk4, _, hl3⟩ := fin (some .ret) W3 hk3
      exact ⟨_, _, hr, Or.inr ⟨rfl, hxb W3 _ hi3 (Soft.put (by omega) hl3 rfl _), hl4, hk4⟩⟩
    | exit id => exact hp.elim
    | goto t => exact hp.elim
    | panic ch => exact hp.elim
    | outgrown => exact hp.elim
  · rintro e W2 ⟨⟨v, rfl⟩, (⟨s, hfin, hi, hl, hk⟩ | ⟨hi, hl, hk⟩)⟩
    · refine ⟨none, _, ?_, hdone _ s _ (Nat.le_refl _) hfin (hmb s W2 _ hi (Soft.put (show w.heap.size ≤ w.heap.size + 1 by omega) hl rfl (.loop { rc .ready none with state := .exhausted }))) ((World.putObj_heap_other (by omega)).trans hk)⟩
      have := run_endLoop (P := P) hl (by rw [hrc]; simp)
      rw [hrc] at this ⊢
      exact this
    · refine ⟨some .ret, _, ?_, hstop _ _ (Nat.le_refl _) (hxb W2 _ hi (Soft.put (show w.heap.size ≤ w.heap.size + 1 by omega) hl rfl (.loop { rc .done (some .ret) with state := .exhausted }))) ((World.putObj_heap_other (by omega)).trans hk)⟩
      have := run_endLoop (P := P) hl (by rw [hrc]; simp)
      rw [hrc] at this ⊢
      exact this

/-- what the choices are told from -/
def ChT (bc br k N : Nat) (W : World) : Prop := W.cell? ⟨bc, 0, none⟩ = some (.int .i64 k) ∧ W.cell? ⟨br, 0, none⟩ = some (.int .i64 N)
/-- a choice that is handed over -/
def ChX (b k N : Nat) (l : Nat → Nat) (x : Option Addr × Nat) (W : World) : Prop := Rise k N l ∧ Rd b W (chs l) x.1 k
def ChNx (k N : Nat) (l l' : Nat → Nat) : Prop := ∃ i, MovesAt k N l i ∧ l' = nxt l i
def ChFin (k N : Nat) (l : Nat → Nat) : Prop := ∀ r, r < k → N + r ≤ l r + k
/-- the choice that lies at block g -/
def chOf (W : World) (g j : Nat) : Nat := match W.cell? ⟨g, j, none⟩ with
  | some v => (intOf v).toNat
  | none => 0
theorem chOf_row {W : World} {g k : Nat} {l : Nat → Nat} (h : W.rowIs g TI k (chs l)) {j : Nat} (hj : j < k) : chOf W g j = l j := by
  unfold chOf
  rw [h.cell hj]
  simp [chs, intOf]
/-- how many choices are still to come -/
def chMs (k N g : Nat) (s5 : Value) (W : World) : Nat := match s5 with
  | .bool true => N ^ k - chV N (chOf W g) k
  | _ => 0
/-- in the loop of choices -/
def ChAt (k N g : Nat) (J Jm : (Nat → Nat) → World → Prop) (B : Nat) (s5 : Value) (W : World) : Prop :=
  ∃ l, Rise k N l ∧ W.rowIs g TI k (chs l) ∧ B ≤ W.heap.size ∧ ((s5 = .bool true ∧ J l W) ∨ (s5 = .bool false ∧ Jm l W ∧ ChFin k N l))

/-- what haveInverse tells -/
def HavSaid (q : FP) (b wd k : Nat) (G : Nat → Nat → Int) (w : World) (e : Ending) (w' : World) : Prop :=
  ∃ t, e = .returned (.tuple #[.bool t, .int .i64 0]) ∧ (t = true ↔ rk k (elM q G) k = k) ∧ Fld q.p b wd w' ∧ Turned b w w'
end Go.Proofs.YtgbipbcejjlpiaaGreatDoor

namespace Go.Proofs.YtgbipbcejjlpiaaGreatDoor
open Go.RowKit Go.Shelf
attribute [local go_sem] Oper.semAt_some

/-- two results that lie in cells of their own -/
theorem results_cells2 {fn : Func} {p u : Tmp} {t1 t2 : TypeId} (h : fn.results = #[.cell p t1, .cell u t2]) (tmps : Array Value) (P : Program) (w : World) {a1 a2 : Addr} {v1 v2 : Value} (e1 : tmps.getD p undef = .pointer (some a1)) (e2 : tmps.getD u undef = .pointer (some a2))
    (i1 : ∀ w, (isAgg t1).run P w = .ok false w) (i2 : ∀ w, (isAgg t2).run P w = .ok false w) (c1 : w.cell? a1 = some v1) (c2 : w.cell? a2 = some v2) : (results fn tmps).run P w = .ok (.tuple #[v1, v2]) w := by
  have e1' : tmps[p]?.getD undef = .pointer (some a1) := by simpa using e1
  have e2' : tmps[u]?.getD undef = .pointer (some a2) := by simpa using e2
  have l1 : (load a1).run P w = .ok v1 w := by simp [run_load, c1]
  have l2 : (load a2).run P w = .ok v2 w := by simp [run_load, c2]
  simp [results, h, e1', e2', asAddr, loadVar, Sem.run_bind, i1, i2, Result.andThen, l1, l2]

abbrev TBl : Nat := 4
abbrev TEr : Nat := 27
theorem aggBl (w : World) : (isAgg TBl).run Tryz.prog w = .ok false w := by kernel_rfl
theorem aggEr (w : World) : (isAgg TEr).run Tryz.prog w = .ok false w := by kernel_rfl

/-- what Safe asks -/
def safeP (c m : Nat) (Ls : Nat → Nat) (F : Nat → Nat → Int) : Prop := mayP c m Ls F ∧ m ≤ 5 ∧ Ls 0 ≤ 8
/-- what Safe tells -/
def SafeSaid (q : FP) (b wd m : Nat) (Ls : Nat → Nat) (F : Nat → Nat → Int) (w : World) (e : Ending) (w' : World) : Prop :=
  ∃ s t, e = .returned (.tuple #[.bool t, .int .i64 (errOf s)]) ∧ (s = true ↔ safeP (M.ord q.p) m Ls F) ∧ (t = true ↔ s = true ∧ SafeP q (Ls 0) m (elM q F)) ∧ Fld q.p b wd w' ∧ Turned b w w'

/-- the world when Safe begins: the field's box and both results' -/
def safeW (b : Nat) (w : World) : World := ((w.alloc (.cells #[.pointer (some ⟨b, 0, none⟩)] 49)).alloc (.cells #[.bool false] TBl)).alloc (.cells #[.int .i64 0] TEr)
theorem safeW_below (b : Nat) (w : World) : Below w.heap.size w (safeW b w) := (((Below.refl _ w).alloc (Nat.le_refl _) _).alloc (by simp) _).alloc (by simp; omega) _
theorem safeW_size (b : Nat) (w : World) : (safeW b w).heap.size = w.heap.size + 3 := by simp [safeW]
theorem safeW_f (b : Nat) (w : World) : (safeW b w).rowIs w.heap.size 49 1 (fun _ => .pointer (some ⟨b, 0, none⟩)) := ((World.rowIs_alloc w #[.pointer (some ⟨b, 0, none⟩)] _ (fun _ => .pointer (some ⟨b, 0, none⟩)) (fun i hi => by simp at hi; subst hi; rfl)).alloc _).alloc _
theorem safeW_r (b : Nat) (w : World) : (safeW b w).rowIs (w.heap.size + 1) TBl 1 (fun _ => .bool false) := by
  have h := (World.rowIs_alloc (w.alloc (.cells #[.pointer (some ⟨b, 0, none⟩)] 49)) #[.bool false] TBl (fun _ => .bool false) (fun i hi => by simp at hi; subst hi; rfl)).alloc (.cells #[.int .i64 0] TEr)
  rwa [World.size_alloc] at h
theorem safeW_e (b : Nat) (w : World) : (safeW b w).rowIs (w.heap.size + 2) TEr 1 (fun _ => .int .i64 0) := by
  have h := World.rowIs_alloc ((w.alloc (.cells #[.pointer (some ⟨b, 0, none⟩)] 49)).alloc (.cells #[.bool false] TBl)) #[.int .i64 0] TEr (fun _ => .int .i64 0) (fun i hi => by simp at hi; subst hi; rfl)
  rwa [World.size_alloc, World.size_alloc] at h

/-- the identity, and p's rows behind it, are there -/
def WholeAt (b k m : Nat) (F : Nat → Nat → Int) (w2 : World) (s7 s8 : Value) (wr : World) : Prop :=
  ∃ bw A c, s7 = .pointer (some ⟨bw, 0, none⟩) ∧ s8 = .int .i64 0 ∧ w2.heap.size ≤ bw ∧ wr.cell? ⟨bw, 0, none⟩ = some (.slice A (k + m) c) ∧ Mx b wr (joinF k idF F) (fun _ => k) A (k + m) ∧ Below w2.heap.size w2 wr

theorem Rd.fresh {b : Nat} {W : World} {K : Nat → Value} {A : Option Addr} {n : Nat} (h : Rd b W K A n) : Rd W.heap.size W K A n := fun hn => by
  obtain ⟨ad, h1, _, h3, h4⟩ := h hn
  exact ⟨ad, h1, by omega, h3, h4⟩
theorem Mx.fresh {b : Nat} {W : World} {F : Nat → Nat → Int} {Ls : Nat → Nat} {A : Option Addr} {n : Nat} (h : Mx b W F Ls A n) : Mx W.heap.size W F Ls A n := by
  obtain ⟨As, Cs, h1, h2⟩ := h
  exact ⟨As, Cs, h1.fresh, fun r hr => (h2 r hr).fresh⟩
/-- rows that lie apart from a block that turns -/
theorem mx_turn {b g : Nat} {W W' : World} {F : Nat → Nat → Int} {Ls : Nat → Nat} {A : Option Addr} {n : Nat} (hg : Mx g W F Ls A n) (hb : Mx b W F Ls A n) (ht : Turned g W W') : Mx b W' F Ls A n := by
  obtain ⟨As, Cs, h1, h2⟩ := hg
  obtain ⟨Bs, Ds, k1, k2⟩ := hb
  have he : ∀ r, r < n → slis As Ls Cs r = slis Bs Ls Ds r := fun r hr => by
    obtain ⟨ad, e1, c1⟩ := h1.at_ hr
    obtain ⟨ad', e2, c2⟩ := k1.at_ hr
    rw [e1] at e2
    injection e2 with e2
    subst e2
    rw [c1] at c2
    injection c2
  refine ⟨Bs, Ds, rd_turn (h1.congr he) k1 ht, fun r hr => rd_turn ?_ (k2 r hr) ht⟩
  have := he r hr
  simp only [slis] at this
  injection this with e
  rw [← e]
  exact h2 r hr
theorem whole_done {b k m bw : Nat} {F : Nat → Nat → Int} {w2 w5 : World} {A : Option Addr} {c : Nat} (hr : w5.rowIs bw TM 1 (fun _ => nilS)) (hbw : w2.heap.size ≤ bw) (h1 : Mx bw w5 (joinF k idF F) (fun _ => k) A (k + m)) (h2 : Mx b w5 (joinF k idF F) (fun _ => k) A (k + m)) (hb : Below w2.heap.size w2 w5) :
    WholeAt b k m F w2 (.pointer (some ⟨bw, 0, none⟩)) (.int .i64 0) (w5.setCell ⟨bw, 0, none⟩ (.slice A (k + m) c)) :=
  ⟨bw, A, c, rfl, rfl, hbw, World.cell?_setCell_same _ _ _ (hr.cell (i := 0) (by omega)), mx_turn h1 h2 ((Turned.refl bw w5).setCell 0 _), hb.setCell (p := ⟨bw, 0, none⟩) hbw _⟩
theorem box_new (W : World) : (W.alloc (.cells #[nilS] TM)).rowIs W.heap.size TM 1 (fun _ => nilS) := World.rowIs_alloc W #[nilS] TM (fun _ => nilS) (fun i hi => by simp at hi; subst hi; rfl)

/-- the identity's rows and p's, as numbers of the field -/
theorem join_el {q : FP} {k : Nat} (F : Nat → Nat → Int) (r j : Nat) : elM q (joinF k idF F) r j = joinE k dl (elM q F) r j := by
  unfold elM joinF joinE
  by_cases e : r < k
  · rw [if_pos e, if_pos e, idF_el (q := q)]
    exact toEl_of _
  · rw [if_neg e, if_neg e]
theorem good_join {q : FP} {k : Nat} (F : Nat → Nat → Int) (l : Nat → Nat) : rk k (elM q (fun r => joinF k idF F (l r))) k = k ↔ GoodCh q k (elM q F) l := by
  unfold GoodCh
  rw [rk_congr (G := elM q (fun r => joinF k idF F (l r))) (F := fun i j => joinE k dl (elM q F) (l i) j) (fun r _ j _ => join_el F (l r) j)]
/-- while the choices go on -/
def SafI (q : FP) (b wd : Nat) (w6 W : World) : Prop := Fld q.p b wd W ∧ Turned b w6 W
theorem SafI.soft {q : FP} {b wd : Nat} {w6 X Y : World} (h : SafI q b wd w6 X) (hb : Soft w6.heap.size X Y) : SafI q b wd w6 Y := ⟨hb.fld h.1, hb.turned h.2 (Nat.le_refl _)⟩
theorem SafI.told {q : FP} {b wd bc br k N : Nat} {w6 W : World} (h : SafI q b wd w6 W) (h1 : w6.cell? ⟨br, 0, none⟩ = some (.int .i64 (N : Int))) (h2 : w6.cell? ⟨bc, 0, none⟩ = some (.int .i64 (k : Int))) (hb : b ≠ br ∧ b ≠ bc) : ChT bc br k N W :=
  ⟨(h.2.cell (q := ⟨bc, 0, none⟩) (lt_of_cell h2) (fun e => hb.2 e.symm)).trans h2, (h.2.cell (q := ⟨br, 0, none⟩) (lt_of_cell h1) (fun e => hb.1 e.symm)).trans h1⟩
/-- a choice has been found that has no inverse -/
def SafX (q : FP) (b wd k m : Nat) (F : Nat → Nat → Int) (w W : World) : Prop :=
  Fld q.p b wd W ∧ Turned b w W ∧ W.cell? ⟨w.heap.size + 1, 0, none⟩ = some (.bool false) ∧ W.cell? ⟨w.heap.size + 1 + 1, 0, none⟩ = some (.int .i64 0) ∧ ¬ SafeP q k m (elM q F)
theorem SafX.soft {q : FP} {b wd k m B : Nat} {F : Nat → Nat → Int} {w X Y : World} (h : SafX q b wd k m F w X) (hb : Soft B X Y) (hB : w.heap.size ≤ B) (h4 : w.heap.size + 1 < B) (h5 : w.heap.size + 1 + 1 < B) : SafX q b wd k m F w Y := by
  obtain ⟨h1, h2, h3, h6, h7⟩ := h
  exact ⟨hb.fld h1, hb.turned h2 hB, (World.cell?_of_block (hb.at_ h4 (lt_of_cell h3))).trans h3, (World.cell?_of_block (hb.at_ h5 (lt_of_cell h6))).trans h6, h7⟩
end Go.Proofs.YtgbipbcejjlpiaaGreatDoor
