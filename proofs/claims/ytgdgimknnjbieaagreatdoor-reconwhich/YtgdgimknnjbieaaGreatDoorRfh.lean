/- A range over a function whose iterator keeps memory of its own across the rounds, and whose body always goes on; a region that draws its order, by the plain calculus. -/
import Derived.Test.YtgdgimknnjbieaaGreatDoorBsa
import Derived.Test.YtgdgimknnjbieaaGreatDoorRfl
namespace Go.Proofs.YtgdgimknnjbieaaGreatDoor
open Go.RowKit

/-- what lies from block B on lies as it lay -/
structure KeptFrom (B : Nat) (W W' : World) : Prop where
  size : W.heap.size ≤ W'.heap.size
  block : ∀ k, B ≤ k → k < W.heap.size → W'.heap[k]? = W.heap[k]?
theorem KeptFrom.refl (B : Nat) (W : World) : KeptFrom B W W := ⟨Nat.le_refl _, fun _ _ _ => rfl⟩
theorem KeptFrom.trans {B : Nat} {X Y Z : World} (h : KeptFrom B X Y) (k : KeptFrom B Y Z) : KeptFrom B X Z := ⟨Nat.le_trans h.size k.size, fun i hB hi => (k.block i hB (Nat.lt_of_lt_of_le hi h.size)).trans (h.block i hB hi)⟩
theorem KeptFrom.setCell {B : Nat} {W W' : World} (h : KeptFrom B W W') {g i : Nat} (hg : g < B) (v : Value) : KeptFrom B W (W'.setCell ⟨g, i, none⟩ v) :=
  ⟨by simpa [World.setCell] using h.size, fun k hk hl => by
    rw [← h.block k hk hl]
    simp only [World.setCell, Array.getElem?_modify]
    rw [if_neg (by omega)]⟩
theorem below_put {n r : Nat} {W : World} (hr : n ≤ r) (o : Obj) : Below n W (W.putObj r o) := ⟨rfl, rfl, rfl, by simp, fun k hk => World.putObj_heap_other (by omega)⟩
theorem KeptFrom.drew {B : Nat} {W W' : World} (h : KeptFrom B W W') : KeptFrom B W W'.drew := ⟨h.size, h.block⟩
theorem KeptFrom.of_below {B : Nat} {W W' : World} (h : Below W.heap.size W W') : KeptFrom B W W' := ⟨h.size, fun k _ hl => h.block k hl⟩
theorem KeptFrom.mono {B B' : Nat} {W W' : World} (h : KeptFrom B W W') (hb : B ≤ B') : KeptFrom B' W W' := ⟨h.size, fun k hk hl => h.block k (by omega) hl⟩

/-- a region that draws its order, by hand -/
theorem region_plain {P : Program} {id : Nat} {ops : Array Oper} {Q : Exit → Act → World → Prop} {a : Act} {w : World} (S : World → Prop) (N : Nat) (hN : ops.size = N) (hm : P.follows .mixedOrders = true)
    (h : wpAnyH P .any ops (OnlyN Q) S N (Array.replicate N false) a w.drew) : (Code.region id ops true).wp P Q a w := by
  subst hN
  exact Code.wp_mono OnlyN.imp (wp_region_any hm (wpAny_of_held _ _ _ _ h))

/-- what an iterator owes that hands over N things, one behind the other, with memory of its own that the body leaves alone: T is what it reads, X j x W what it says of the j-th thing x -/
def HandsK (n : Nat) (P : Program) (gf : Nat) (lb : Array Value) {α : Type} (encs : α → Array Value) (N : Nat) (T : World → Prop) (X : Nat → α → World → Prop) : Prop :=
  ∀ (l : Nat) (J : Nat → World → Prop) (W : World), (∀ j A, J j A → T A) → (∀ j A B, J j A → Below W.heap.size A B → J j B) →
    (∀ j x A, J j A → j < N → X j x A → W.heap.size ≤ A.heap.size → YieldAt Fence.wide (n - 1) P l (encs x) A fun e A' => e = .returned (.bool true) ∧ J (j + 1) A' ∧ KeptFrom W.heap.size A A') → J 0 W →
    CallsIn Fence.wide n P gf (#[.func (.yield l) #[] #[]] ++ lb) W fun e W' => (∃ v, e = .returned v) ∧ J N W'

/-- a round's body has gone on -/
def OnKept (B : Nat) (I' : World → Prop) (W : World) : Exit → Act → World → Prop
  | .normal, _, W' => KeptFrom B W W' ∧ I' W'
  | _, _, _ => False

theorem range_keep {P : Program} {n : Nat} {g : Operand} {ps : Array Tmp} {assign body : Code} {Q : Exit → Act → World → Prop} {a : Act} {w : World}
    (h1 : 1 ≤ n) {gf : Nat} {lb : Array Value} (hg : a.eval g = .func (.func gf) #[] lb) (eg : ∀ args w, (callFunc gf args).run P w = .ok (.enter gf args) w)
    {α : Type} {encs : α → Array Value} (hps : ∀ x, (encs x).size = ps.size) {N : Nat} {T : World → Prop} {X : Nat → α → World → Prop} (hit : HandsK (n - 1) P gf lb encs N T X)
    (I : Nat → World → Prop) (hIT : ∀ j A, I j A → T A) (hIb : ∀ j A B, I j A → Below w.heap.size A B → I j B)
    (hXp : ∀ j x A r o o', X j x A → A.heap[r]? = some o → o.isCells = false → X j x (A.putObj r o')) (h0 : I 0 w) (a₁ : α → Act)
    (hassign : ∀ (l : Nat) (x : α) (W : World) (K : Act → World → Prop), K (a₁ x) W →
      assign.wpIn (Fence.wide.inRound l) (n - 1 - 1) P (Exit.then K (fun _ _ _ => False)) { tmps := (ps.zip (encs x)).foldl (fun t (p, v) => t.setIfInBounds p v) a.tmps, defers := [] } W)
    (hbody : ∀ (l j : Nat) (x : α) (W : World), I j W → j < N → X j x W → w.heap.size ≤ W.heap.size → body.wpIn (Fence.wide.inRound l) (n - 1 - 1) P (OnKept w.heap.size (I (j + 1)) W) (a₁ x) W)
    (hdone : ∀ (D : Nat) (W : World), w.heap.size ≤ D → I N W → W.heap[D]? = some (.deferred (some [])) → Q .normal { a with defers := { target := .collected D, args := #[] } :: a.defers } W) :
    (Code.rangeFunc g ps assign body).wpIn Fence.wide n P Q a w := by
  refine wpIn_rangeFunc ?_
  intro fn hfn
  obtain ⟨rc, hrc⟩ : ∃ rc : LoopState → Loop, rc = fun st => { state := st, pending := none, fn, tmps := a.tmps, params := ps, assign, body, defers := w.heap.size } := ⟨_, rfl⟩
  obtain ⟨W1, hW1⟩ : ∃ W1, (w.alloc (.deferred (some []))).alloc (.loop (rc .ready)) = W1 := ⟨_, rfl⟩
  have hs1 : W1.heap.size = w.heap.size + 2 := by rw [← hW1]; simp
  have hL1 : W1.heap[w.heap.size + 1]? = some (.loop (rc .ready)) := by
    rw [← hW1]; have := World.alloc_heap_new (w.alloc (.deferred (some []))) (.loop (rc .ready)); rwa [World.size_alloc] at this
  have hK1 : W1.heap[w.heap.size]? = some (.deferred (some [])) := by
    rw [← hW1]; exact (Below.heap_alloc _ _ _ (by simp)).trans (World.alloc_heap_new w _)
  have hb1 : Below w.heap.size w W1 := by
    rw [← hW1]; exact ((Below.refl _ w).alloc (Nat.le_refl _) _).alloc (by simp) _
  refine ⟨w.heap.size + 1, [{ target := .collected w.heap.size, args := #[] }], W1, { target := .fn (.func gf) lb, args := #[.func (.yield (w.heap.size + 1)) #[] #[]] }, W1, gf,
    #[.func (.yield (w.heap.size + 1)) #[] #[]] ++ lb, W1, ?_, ?_, fun _ _ => trivial, ?_, fun _ => h1, ?_⟩
  · rw [← hW1, hrc]; exact run_enterLoop_outer _ _ _ _ _
  · simp only [resolve, hg]
    simp [go_sem]
  · simp [invoke, go_sem, eg]
  refine (hit (w.heap.size + 1) (fun j W => I j W ∧ W.heap[w.heap.size + 1]? = some (.loop (rc .ready)) ∧ W.heap[w.heap.size]? = some (.deferred (some []))) W1
    (fun j A h => hIT j A h.1)
    (fun j A B h hb => ⟨hIb j A B h.1 (hb.mono (by omega)), (hb.block _ (by omega)).trans h.2.1, (hb.block _ (by omega)).trans h.2.2⟩)
    ?_ ⟨hIb 0 w W1 h0 hb1, hL1, hK1⟩).mono ?_
  · rintro j x W ⟨hi, hl, hk⟩ hj hx hsz
    have hlt : w.heap.size + 1 < W.heap.size := (Array.getElem?_eq_some_iff.1 hl).1
    have hy := run_yield (P := P) (args := encs x) hl (by rw [hrc]; exact hps x)
    rw [hrc] at hy
    refine ⟨fn, _, assign, body, hy, roundIn_of_wpIn hfn (hassign _ x W _ ?_)⟩
    refine ⟨_, run_beginRound hl (by rw [hrc]), ?_⟩
    have hl2 : (W.putObj (w.heap.size + 1) (.loop { rc .ready with state := .busy })).heap[w.heap.size + 1]? = some (.loop { rc .ready with state := .busy }) := World.putObj_heap_same hlt
    have hk2 : (W.putObj (w.heap.size + 1) (.loop { rc .ready with state := .busy })).heap[w.heap.size]? = some (.deferred (some [])) := (World.putObj_heap_other (by omega)).trans hk
    refine wpIn_mono (hbody _ j x (W.putObj (w.heap.size + 1) (.loop { rc .ready with state := .busy })) (hIb j W _ hi (below_put (by omega) _)) hj (hXp j x W _ _ _ hx hl rfl) (by simp; omega)) ?_
    rintro e a3 W3 hp
    cases e with
    | normal =>
      obtain ⟨hk3, hi3⟩ := hp
      have hl3 := (hk3.block (w.heap.size + 1) (by omega) (by simp; omega)).trans hl2
      have hk4 := (hk3.block w.heap.size (Nat.le_refl _) (by simp; omega)).trans hk2
      have hr := run_endRound (P := P) none hl3
      have hsz3 := hk3.size
      rw [World.putObj_size] at hsz3
      refine ⟨_, _, hr, rfl, ⟨hIb (j + 1) W3 _ hi3 (below_put (by omega) _), ?_, (World.putObj_heap_other (by omega)).trans hk4⟩, ⟨by simpa using hsz3, fun q hq hql => ?_⟩⟩
      · rw [World.putObj_heap_same (by omega), hrc]
        rfl
      · rw [World.putObj_heap_other (by omega), hk3.block q (by omega) (by simpa using hql), World.putObj_heap_other (by omega)]
    | ret => exact hp.elim
    | exit id => exact hp.elim
    | goto t => exact hp.elim
    | panic ch => exact hp.elim
    | outgrown => exact hp.elim
  · rintro e W2 ⟨⟨v, rfl⟩, hi, hl, hk⟩
    refine ⟨none, _, ?_, hdone _ _ (Nat.le_refl _) (hIb N W2 _ hi (below_put (show w.heap.size ≤ w.heap.size + 1 by omega) (.loop { rc .ready with state := .exhausted }))) ((World.putObj_heap_other (by omega)).trans hk)⟩
    have := run_endLoop (P := P) hl (by rw [hrc]; simp)
    rw [hrc] at this ⊢
    exact this
end Go.Proofs.YtgdgimknnjbieaaGreatDoor
