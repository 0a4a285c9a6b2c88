/- A law of a range over a function whose iterator hands over what it has just laid into memory, and whose body always goes on; a region in a round's frame, by the plain calculus. -/
import Derived.RangeFuncNested
import Derived.RangeFuncBound
import Derived.RangeFuncCalls
import Derived.RangeFuncLeaves
import Derived.OrdersHeld
import Derived.OrdersIn
import Derived.Deep.Draws
namespace Go.Proofs.YtgdgimknnjbieaaGreatDoor
open Go.RowKit

/-- a round's body has gone on -/
def OnlyOn (B : Nat) (I' : World → Prop) (W : World) : Exit → Act → World → Prop
  | .normal, _, W' => KeepsFrom B W W' ∧ I' W'
  | _, _, _ => False

/-- what an iterator owes that hands over N things, one behind the other: T is what it reads, X j x W₀ W what it says of the j-th thing x, laid since W₀ -/
def Hands (n : Nat) (P : Program) (gf : Nat) (lb : Array Value) {α : Type} (encs : α → Array Value) (N : Nat) (T : World → Prop) (X : Nat → α → World → World → Prop) : Prop :=
  ∀ (l : Nat) (J : Nat → World → Prop) (W : World), (∀ j A, J j A → T A) → (∀ j A B, J j A → Below A.heap.size A B → J j B) →
    (∀ j x W₀ W, J j W₀ → Below W₀.heap.size W₀ W → j < N → X j x W₀ W → YieldAt Fence.wide (n - 1) P l (encs x) W fun e W' => e = .returned (.bool true) ∧ J (j + 1) W') → J 0 W →
    CallsIn Fence.wide n P gf (#[.func (.yield l) #[] #[]] ++ lb) W fun e W' => (∃ v, e = .returned v) ∧ J N W'

theorem below_putObj {W₀ W : World} {r : Nat} {o : Obj} (h : Below W₀.heap.size W₀ W) (hr : r < W₀.heap.size) : Below (W₀.putObj r o).heap.size (W₀.putObj r o) (W.putObj r o) := by
  refine ⟨h.os, h.tape, h.output, by simpa using h.size, fun k hk => ?_⟩
  rw [World.putObj_size] at hk
  by_cases e : k = r
  · subst e
    rw [World.putObj_heap_same hk, World.putObj_heap_same (Nat.lt_of_lt_of_le hk h.size)]
  · rw [World.putObj_heap_other e, World.putObj_heap_other e, h.block k hk]

theorem range_law {P : Program} {n : Nat} {g : Operand} {ps : Array Tmp} {assign body : Code} {Q : Exit → Act → World → Prop} {a : Act} {w : World}
    (h1 : 1 ≤ n) {gf : Nat} {lb : Array Value} (hg : a.eval g = .func (.func gf) #[] lb) (eg : ∀ args w, (callFunc gf args).run P w = .ok (.enter gf args) w)
    {α : Type} {encs : α → Array Value} (hps : ∀ x, (encs x).size = ps.size) {N : Nat} {T : World → Prop} {X : Nat → α → World → World → Prop} (hit : Hands (n - 1) P gf lb encs N T X)
    (I : Nat → World → Prop) (hIT : ∀ j A, I j A → T A) (hIa : ∀ j A B, I j A → Below A.heap.size A B → I j B)
    (hIp : ∀ j A r o o', I j A → w.heap.size ≤ r → A.heap[r]? = some o → o.isCells = false → I j (A.putObj r o'))
    (hXp : ∀ j x A₀ A r o o', X j x A₀ A → A.heap[r]? = some o → o.isCells = false → X j x (A₀.putObj r o') (A.putObj r o')) (h0 : I 0 w) (a₁ : α → Act)
    (hassign : ∀ (l : Nat) (x : α) (W : World) (K : Act → World → Prop), K (a₁ x) W →
      assign.wpIn (Fence.wide.inRound l) (n - 1 - 1) P (Exit.then K (fun _ _ _ => False)) { tmps := (ps.zip (encs x)).foldl (fun t (p, v) => t.setIfInBounds p v) a.tmps, defers := [] } W)
    (hbody : ∀ (l j : Nat) (x : α) (W₀ W : World), I j W₀ → Below W₀.heap.size W₀ W → j < N → X j x W₀ W → body.wpIn (Fence.wide.inRound l) (n - 1 - 1) P (OnlyOn w.heap.size (I (j + 1)) W) (a₁ x) W)
    (hdone : ∀ (D : Nat) (W : World), w.heap.size ≤ D → I N W → W.heap[D]? = some (.deferred (some [])) → Q .normal { a with defers := { target := .collected D, args := #[] } :: a.defers } W) :
    (Code.rangeFunc g ps assign body).wpIn Fence.wide n P Q a w := by
  refine wpIn_rangeFunc ?_
  intro fn hfn
  obtain ⟨rc, hrc⟩ : ∃ rc : LoopState → Loop, rc = fun st => { state := st, pending := none, fn, tmps := a.tmps, params := ps, assign, body, defers := w.heap.size } := ⟨_, rfl⟩
  obtain ⟨W1, hW1⟩ : ∃ W1, (w.alloc (.deferred (some []))).alloc (.loop (rc .ready)) = W1 := ⟨_, rfl⟩
  have hL1 : W1.heap[w.heap.size + 1]? = some (.loop (rc .ready)) := by
    rw [← hW1]; have := World.alloc_heap_new (w.alloc (.deferred (some []))) (.loop (rc .ready)); rwa [World.size_alloc] at this
  have hK1 : W1.heap[w.heap.size]? = some (.deferred (some [])) := by
    rw [← hW1]; exact (Below.heap_alloc _ _ _ (by simp)).trans (World.alloc_heap_new w _)
  have hb1 : Below w.heap.size w W1 := by
    rw [← hW1]; exact ((Below.refl _ w).alloc (Nat.le_refl _) _).alloc (by simp) _
  refine ⟨w.heap.size + 1, [{ target := .collected w.heap.size, args := #[] }], W1, { target := .fn (.func gf) lb, args := #[.func (.yield (w.heap.size + 1)) #[] #[]] }, W1, gf,
    #[.func (.yield (w.heap.size + 1)) #[] #[]] ++ lb, W1, ?_, ?_, fun _ _ => trivial, ?_, fun _ => h1, ?_⟩
  · rw [← hW1, hrc]; exact run_enterLoop_outer _ _ _ _ _
  · simp only [resolve, hg]
    simp [go_sem]
  · simp [invoke, go_sem, eg]
  refine (hit (w.heap.size + 1) (fun j W => I j W ∧ W.heap[w.heap.size + 1]? = some (.loop (rc .ready)) ∧ W.heap[w.heap.size]? = some (.deferred (some []))) W1
    (fun j A h => hIT j A h.1)
    (fun j A B h hb => ⟨hIa j A B h.1 hb, (hb.block _ (Array.getElem?_eq_some_iff.1 h.2.1).1).trans h.2.1, (hb.block _ (Array.getElem?_eq_some_iff.1 h.2.2).1).trans h.2.2⟩)
    ?_ ⟨hIa 0 w W1 h0 hb1, hL1, hK1⟩).mono ?_
  · rintro j x W₀ W ⟨hi, hl0, hk0⟩ hbel hj hx
    have hlt0 : w.heap.size + 1 < W₀.heap.size := (Array.getElem?_eq_some_iff.1 hl0).1
    have hl := (hbel.block _ (Array.getElem?_eq_some_iff.1 hl0).1).trans hl0
    have hk := (hbel.block _ (Array.getElem?_eq_some_iff.1 hk0).1).trans hk0
    have hlt : w.heap.size + 1 < W.heap.size := (Array.getElem?_eq_some_iff.1 hl).1
    have hy := run_yield (P := P) (args := encs x) hl (by rw [hrc]; exact hps x)
    rw [hrc] at hy
    refine ⟨fn, _, assign, body, hy, roundIn_of_wpIn hfn (hassign _ x W _ ?_)⟩
    refine ⟨_, run_beginRound hl (by rw [hrc]), ?_⟩
    have hl2 : (W.putObj (w.heap.size + 1) (.loop { rc .ready with state := .busy })).heap[w.heap.size + 1]? = some (.loop { rc .ready with state := .busy }) := World.putObj_heap_same hlt
    have hk2 : (W.putObj (w.heap.size + 1) (.loop { rc .ready with state := .busy })).heap[w.heap.size]? = some (.deferred (some [])) := (World.putObj_heap_other (by omega)).trans hk
    refine wpIn_mono (hbody _ j x (W₀.putObj (w.heap.size + 1) (.loop { rc .ready with state := .busy })) _ (hIp j W₀ _ _ _ hi (by omega) hl0 rfl) (below_putObj hbel hlt0) hj (hXp j x W₀ W _ _ _ hx hl rfl)) ?_
    rintro e a3 W3 hp
    cases e with
    | normal =>
      obtain ⟨hk3, hi3⟩ := hp
      have hl3 := hk3.same _ _ (by omega) hl2 rfl
      have hk4 := hk3.same _ _ (Nat.le_refl _) hk2 rfl
      have hr := run_endRound (P := P) none hl3
      refine ⟨_, _, hr, rfl, hIp (j + 1) W3 _ _ _ hi3 (by omega) hl3 rfl, ?_, (World.putObj_heap_other (by omega)).trans hk4⟩
      rw [World.putObj_heap_same (Array.getElem?_eq_some_iff.1 hl3).1, hrc]
      rfl
    | ret => exact hp.elim
    | exit id => exact hp.elim
    | goto t => exact hp.elim
    | panic ch => exact hp.elim
    | outgrown => exact hp.elim
  · rintro e W2 ⟨⟨v, rfl⟩, hi, hl, hk⟩
    refine ⟨none, _, ?_, hdone _ _ (Nat.le_refl _) (hIp N W2 _ _ (.loop { rc .ready with state := .exhausted }) hi (by omega) hl rfl) ((World.putObj_heap_other (by omega)).trans hk)⟩
    have := run_endLoop (P := P) hl (by rw [hrc]; simp)
    rw [hrc] at this ⊢
    exact this

/-- no operation of the region defers -/
def noDefer (ops : Array Oper) : Bool := ops.all fun o => match o.op with | .defer _ => false | _ => true
theorem noDefer_at {ops : Array Oper} (h : noDefer ops = true) {i : Nat} {o : Oper} (ho : ops[i]? = some o) : ∀ c, o.op ≠ .defer c := by
  intro c hc
  have := Array.all_eq_true_iff_forall_mem.1 h o (Array.mem_of_getElem? ho)
  rw [hc] at this
  cases this

/-- one operation, of the plain calculus, in a round's frame -/
theorem opIn_of_op {P : Program} {n l : Nat} {ops : Array Oper} {Q : Exit → Act → World → Prop} (hno : noDefer ops = true) (hlet : ¬ LetsOut Q) {i : Nat} {K K' : Act → World → Prop} {a : Act} {w : World} (hK : ∀ a w, K a w → K' a w)
    (h : wpOp P ops Q i K a w) : wpOpIn (Fence.wide.inRound l) n P ops Q i K' a w := by
  unfold wpOp at h
  unfold wpOpIn
  cases ho : ops[i]? with
  | none => rw [ho] at h; exact hK _ _ h
  | some o =>
    rw [ho] at h
    dsimp only at h ⊢
    by_cases hw : Region.wanted o (yielded ops a.tmps) = true
    · rw [if_pos hw] at h ⊢
      rcases h with h | ⟨_, h⟩
      · unfold Oper.wp at h
        unfold Oper.wpIn
        refine ⟨fun _ _ => trivial, ?_⟩
        rw [Oper.semAt_eq _ _ _ (noDefer_at hno ho)]
        generalize (execOp a.eval o).run P w = r at h ⊢
        cases r with
        | ok x w' =>
          cases x with
          | value v => exact hK _ _ h
          | skip => exact hK _ _ h
          | defer d => exact hK _ _ h
          | enter f args =>
            refine ⟨fun h => (by cases h), CallsIn.inRound l (callsIn_wide.2 (Calls.mono h fun e w'' he => ?_))⟩
            cases e with
            | returned v => exact hK _ _ he
            | panicked c => exact he
            | outgrown => exact he
          | row row args =>
            refine ⟨fun h => (by cases h), fun c cs _ => ?_⟩
            obtain ⟨v, w'', hr, hs⟩ := h c cs
            exact ⟨v, w'', hK _ _ hr, stepsIn_wide.2 hs⟩
          | _ => exact h.elim
        | halt x w' =>
          cases x with
          | panic v => exact h
          | _ => exact h.elim
      · exact absurd h hlet
    · rw [if_neg hw] at h ⊢
      exact ⟨fun _ _ => trivial, hK _ _ h⟩

theorem anyIn_of_any {P : Program} {n l : Nat} {ops : Array Oper} {Q : Exit → Act → World → Prop} (hno : noDefer ops = true) (hlet : ¬ LetsOut Q) {md : Region.Mode} : ∀ (fuel : Nat) (listed : Array Bool) (a : Act) (w : World),
    wpAny P md ops Q fuel listed a w → wpAnyIn (Fence.wide.inRound l) n P md ops Q fuel listed a w
  | 0, _, _, _, h => h
  | fuel + 1, _, _, _, h => ⟨h.1, fun i hi => opIn_of_op hno hlet (fun a' w' h' => anyIn_of_any hno hlet fuel _ a' w' h') (h.2 i hi)⟩

/-- Q where the region is left at its end, and nothing else -/
def OnlyN (Q : Exit → Act → World → Prop) : Exit → Act → World → Prop
  | .normal, a, w => Q .normal a w
  | _, _, _ => False
theorem OnlyN.imp {Q : Exit → Act → World → Prop} : ∀ (e : Exit) (a : Act) (w : World), OnlyN Q e a w → Q e a w := fun e a w h => by
  cases e <;> first | exact h | exact (h : False).elim

/-- a region that draws its order, in a round's frame, by the plain calculus -/
theorem region_in_round {P : Program} {n l id : Nat} {ops : Array Oper} {Q : Exit → Act → World → Prop} {a : Act} {w : World} (S : World → Prop) (N : Nat) (hN : ops.size = N) (hm : P.follows .mixedOrders = true) (hno : noDefer ops = true)
    (h : wpAnyH P .any ops (OnlyN Q) S N (Array.replicate N false) a w.drew) : (Code.region id ops true).wpIn (Fence.wide.inRound l) n P Q a w := by
  subst hN
  exact wpIn_mono (wpIn_region_any hm (anyIn_of_any hno (fun ⟨_, _, h⟩ => h) _ _ _ _ (wpAny_of_held _ _ _ _ h))) OnlyN.imp

section
variable {P : Program} {L : List Oper} {Q : Exit → Act → World → Prop} {S : World → Prop} {md : Region.Mode} {fuel : Nat} {listed : Array Bool} {a : Act} {w : World}

/-- operation i, which yields v in whatever world that meets S, is taken first -/
theorem takeL {i : Nat} {oi : Oper} {v : Value} (hi : L[i]? = some oi) (hs : Region.noSelect L.toArray = true) (hf : Region.free md L.toArray listed i = true) (hr : (Region.ready md L.toArray listed).contains i = true)
    (hg : oi.guard = none) (hy : ∀ w, S w → (execOp a.eval oi).run P w = .ok (.value v) w) (hS : S w)
    (h : wpAnyH P md L.toArray (OnlyN Q) S fuel (listed.setIfInBounds i true) (a.put oi.dst v) w) : wpAnyH P md L.toArray (OnlyN Q) S (fuel + 1) listed a w :=
  wpAnyH_take (by rw [List.getElem?_toArray]; exact hi) hs hf hr (fun _ _ _ h => h.elim) (Or.inl ⟨by simp [Region.wanted, hg], hy⟩) hS h

/-- operation i is carried out -/
theorem oneL {i : Nat} {o : Oper} (ho : L[i]? = some o) (hg : o.guard = none)
    (h : ∀ K : Act → World → Prop, (∀ a' w', S w' → wpAnyH P md L.toArray (OnlyN Q) S fuel (listed.setIfInBounds i true) a' w' → K a' w') → o.wp P a w K (OnlyN Q)) :
    wpOp P L.toArray (OnlyN Q) i (fun a' w' => S w' ∧ wpAnyH P md L.toArray (OnlyN Q) S fuel (listed.setIfInBounds i true) a' w') a w := by
  unfold wpOp
  rw [List.getElem?_toArray, ho]
  dsimp only
  rw [if_pos (by simp [Region.wanted, hg])]
  exact Or.inl (h _ (fun _ _ h1 h2 => ⟨h1, h2⟩))

/-- operation i alone may come up -/
theorem stepL {i : Nat} {o : Oper} (hr : Region.ready md L.toArray listed = [i]) (ho : L[i]? = some o) (hg : o.guard = none)
    (h : ∀ K : Act → World → Prop, (∀ a' w', S w' → wpAnyH P md L.toArray (OnlyN Q) S fuel (listed.setIfInBounds i true) a' w' → K a' w') → o.wp P a w K (OnlyN Q)) :
    wpAnyH P md L.toArray (OnlyN Q) S (fuel + 1) listed a w :=
  wpAnyH_all hr (by simp) (fun k hk => by
    simp at hk
    subst hk
    exact oneL ho hg h)

/-- two operations may come up -/
theorem stepL2 {i j : Nat} {o o' : Oper} (hr : Region.ready md L.toArray listed = [i, j]) (ho : L[i]? = some o) (hg : o.guard = none) (ho' : L[j]? = some o') (hg' : o'.guard = none)
    (h : ∀ K : Act → World → Prop, (∀ a' w', S w' → wpAnyH P md L.toArray (OnlyN Q) S fuel (listed.setIfInBounds i true) a' w' → K a' w') → o.wp P a w K (OnlyN Q))
    (h' : ∀ K : Act → World → Prop, (∀ a' w', S w' → wpAnyH P md L.toArray (OnlyN Q) S fuel (listed.setIfInBounds j true) a' w' → K a' w') → o'.wp P a w K (OnlyN Q)) :
    wpAnyH P md L.toArray (OnlyN Q) S (fuel + 1) listed a w :=
  wpAnyH_all hr (by simp) (fun k hk => by
    simp at hk
    rcases hk with rfl | rfl
    · exact oneL ho hg h
    · exact oneL ho' hg' h')
end
end Go.Proofs.YtgdgimknnjbieaaGreatDoor
