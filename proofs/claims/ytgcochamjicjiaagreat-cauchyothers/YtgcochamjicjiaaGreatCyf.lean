/- A law of a range over a function whose body may return; the contracts of package cauchy's choices and haveInverse. -/
import Derived.Test.YtgcochamjicjiaaGreatCye
namespace Go.Proofs.YtgcochamjicjiaaGreat
open Go.RowKit Go.Shelf
attribute [local go_sem] Oper.semAt_some

/-- what lies from block B on lies as it lay -/
structure KeptFrom (B : Nat) (W W' : World) : Prop where
  size : W.heap.size ≤ W'.heap.size
  block : ∀ k, B ≤ k → k < W.heap.size → W'.heap[k]? = W.heap[k]?
theorem KeptFrom.refl (B : Nat) (W : World) : KeptFrom B W W := ⟨Nat.le_refl _, fun _ _ _ => rfl⟩
theorem KeptFrom.trans {B : Nat} {X Y Z : World} (h : KeptFrom B X Y) (k : KeptFrom B Y Z) : KeptFrom B X Z := ⟨Nat.le_trans h.size k.size, fun i hB hi => (k.block i hB (Nat.lt_of_lt_of_le hi h.size)).trans (h.block i hB hi)⟩
theorem KeptFrom.of_turned {B b : Nat} {W W' : World} (h : Turned b W W') (hb : b < B) : KeptFrom B W W' := ⟨h.size, fun k hk hl => h.block k hl (by omega)⟩
theorem KeptFrom.setCell {B : Nat} {W W' : World} (h : KeptFrom B W W') {g i : Nat} (hg : g < B) (v : Value) : KeptFrom B W (W'.setCell ⟨g, i, none⟩ v) :=
  ⟨by simpa [World.setCell] using h.size, fun k hk hl => by
    rw [← h.block k hk hl]
    simp only [World.setCell, Array.getElem?_modify]
    rw [if_neg (by omega)]⟩
/-- a block that an iterator may write, or the law itself: an int's row, or no cells at all -/
def SoftAt (A : World) (k : Nat) : Prop := ∃ o, A.heap[k]? = some o ∧ (o.isCells = false ∨ ∃ cs fr, o = .cells cs TI fr)
/-- nothing has turned but, from block B on, blocks that may -/
structure Soft (B : Nat) (A A' : World) : Prop where
  low : Below 0 A A'
  block : ∀ k, k < A.heap.size → A'.heap[k]? = A.heap[k]? ∨ (B ≤ k ∧ SoftAt A k)
theorem Soft.at_ {B : Nat} {A A' : World} (h : Soft B A A') {k : Nat} (hk : k < B) (hs : k < A.heap.size) : A'.heap[k]? = A.heap[k]? := by
  rcases h.block k hs with e | e
  · exact e
  · omega
theorem Soft.of_below {B : Nat} {A A' : World} (h : Below A.heap.size A A') : Soft B A A' := ⟨h.mono (Nat.zero_le _), fun k hk => Or.inl (h.block k hk)⟩
theorem Soft.of_turned {B g k : Nat} {A A' : World} {f : Nat → Value} (h : Turned g A A') (hg : B ≤ g) (hr : A.rowIs g TI k f) : Soft B A A' := ⟨⟨h.os, h.tape, h.output, h.size, fun _ hk => absurd hk (by omega)⟩, fun q hq => by
  by_cases e : q = g
  · subst e
    obtain ⟨c, hc, _⟩ := hr
    exact Or.inr ⟨hg, _, hc, Or.inr ⟨_, _, rfl⟩⟩
  · exact Or.inl (h.block q hq e)⟩
theorem Soft.put {B r : Nat} {A : World} {o : Obj} (hr : B ≤ r) (ho : A.heap[r]? = some o) (hc : o.isCells = false) (o' : Obj) : Soft B A (A.putObj r o') := ⟨⟨rfl, rfl, rfl, by simp, fun _ hk => absurd hk (by omega)⟩, fun q _ => by
  by_cases e : q = r
  · subst e
    exact Or.inr ⟨hr, _, ho, Or.inl hc⟩
  · exact Or.inl (World.putObj_heap_other e)⟩
theorem Soft.mono {B B' : Nat} {A A' : World} (h : Soft B A A') (hb : B' ≤ B) : Soft B' A A' := ⟨h.low, fun k hk => (h.block k hk).imp id (fun e => ⟨by omega, e.2⟩)⟩
theorem Soft.row {B : Nat} {A A' : World} (h : Soft B A A') {g t n : Nat} {f : Nat → Value} (hr : A.rowIs g t n f) (ht : t ≠ TI) : A'.rowIs g t n f := by
  rcases h.block g hr.lt with e | ⟨_, o, ho, hc⟩
  · exact hr.of_block e
  · obtain ⟨c, h1, _⟩ := hr
    rw [h1] at ho
    injection ho with ho
    subst ho
    rcases hc with hc | ⟨cs, fr, hc⟩
    · cases hc
    · injection hc with _ e
      exact absurd e ht
theorem Soft.fld {B p b wd : Nat} {A A' : World} (h : Soft B A A') (hf : Fld p b wd A) : Fld p b wd A' := by
  refine ⟨hf.1, ?_⟩
  rcases hf.2 with hr | ⟨g, l, g1, g2, h1, h2, h3⟩
  · exact Or.inl (h.row (show A.rowIs b TF 7 _ from hr) (by decide))
  · exact Or.inr ⟨g, l, g1, g2, h.row h1 (by decide), h.row h2 (by decide), h.row h3 (by decide)⟩
theorem Soft.turned {B b : Nat} {w A A' : World} (h : Soft B A A') (ht : Turned b w A) (hB : w.heap.size ≤ B) : Turned b w A' :=
  ⟨h.low.os.trans ht.os, h.low.tape.trans ht.tape, h.low.output.trans ht.output, Nat.le_trans ht.size h.low.size, fun k hk hb => (h.at_ (Nat.lt_of_lt_of_le hk hB) (Nat.lt_of_lt_of_le hk ht.size)).trans (ht.block k hk hb)⟩
theorem below_put {n r : Nat} {W : World} (hr : n ≤ r) (o : Obj) : Below n W (W.putObj r o) := ⟨rfl, rfl, rfl, by simp, fun k hk => World.putObj_heap_other (by omega)⟩
theorem Rd.put {b r : Nat} {W : World} {o o' : Obj} {K : Nat → Value} {A : Option Addr} {n : Nat} (h : Rd b W K A n) (ho : W.heap[r]? = some o) (hc : o.isCells = false) : Rd b (W.putObj r o') K A n := fun hn => by
  obtain ⟨ad, h1, h2, h3, h4⟩ := h hn
  have hne : ad.block ≠ r := fun e => by
    have h5 := h4 0 hn
    rw [show ad.add 0 = ad by simp [Addr.add]] at h5
    subst e
    unfold World.cell? at h5
    rw [ho] at h5
    cases o <;> simp_all [Obj.isCells]
  exact ⟨ad, h1, h2, by simpa using h3, fun j hj => by
    rw [← h4 j hj]
    have hb : (ad.add j).block = ad.block := block_of_add ad j
    unfold World.cell?
    rw [hb, World.putObj_heap_other hne]⟩

/-- what an iterator owes that hands over one thing behind the other, from s0 on, as long as it is asked to -/
def HandsL (n : Nat) (P : Program) (gf : Nat) (lb : Array Value) {α σ : Type} (encs : α → Array Value) (T : World → Prop) (X : σ → α → World → Prop) (s0 : σ) (nx : σ → σ → Prop) (fin : σ → Prop) : Prop :=
  ∀ (l : Nat) (J Jm : σ → World → Prop) (Jx : World → Prop) (W : World), (∀ s A, J s A → T A) → (∀ s A, Jm s A → T A) → (∀ s A B, J s A → Soft W.heap.size A B → J s B) → (∀ s s' A B, Jm s A → nx s s' → Soft W.heap.size A B → J s' B) →
    (∀ s x A, J s A → X s x A → YieldAt Fence.wide (n - 1) P l (encs x) A fun e A' => (e = .returned (.bool true) ∧ Jm s A' ∧ KeptFrom W.heap.size A A') ∨ (e = .returned (.bool false) ∧ Jx A')) → J s0 W →
    CallsIn Fence.wide n P gf (#[.func (.yield l) #[] #[]] ++ lb) W fun e W' => (∃ v, e = .returned v) ∧ ((∃ s, fin s ∧ Jm s W') ∨ Jx W')

/-- a round's body has gone on, or has returned -/
def OnOrRet (B : Nat) (Im Ix : World → Prop) (W : World) : Exit → Act → World → Prop
  | .normal, _, W' => KeptFrom B W W' ∧ Im W'
  | .ret, _, W' => KeptFrom B W W' ∧ Ix W'
  | _, _, _ => False

theorem range_leave {P : Program} {n : Nat} {g : Operand} {ps : Array Tmp} {assign body : Code} {Q : Exit → Act → World → Prop} {a : Act} {w : World}
    (h1 : 1 ≤ n) {gf : Nat} {lb : Array Value} (hg : a.eval g = .func (.func gf) #[] lb) (eg : ∀ args w, (callFunc gf args).run P w = .ok (.enter gf args) w)
    {α σ : Type} {encs : α → Array Value} (hps : ∀ x, (encs x).size = ps.size) {T : World → Prop} {X : σ → α → World → Prop} {s0 : σ} {nx : σ → σ → Prop} {fin : σ → Prop} (hit : HandsL (n - 1) P gf lb encs T X s0 nx fin)
    (I Im : σ → World → Prop) (Ix : World → Prop) (hIT : ∀ s A, I s A → T A) (hmT : ∀ s A, Im s A → T A)
    (hIb : ∀ s A B, I s A → Soft w.heap.size A B → I s B) (hmb : ∀ s A B, Im s A → Soft w.heap.size A B → Im s B) (hxb : ∀ A B, Ix A → Soft w.heap.size A B → Ix B) (hmi : ∀ s s' A, Im s A → nx s s' → I s' A)
    (hXp : ∀ s x A r o o', X s x A → A.heap[r]? = some o → o.isCells = false → X s x (A.putObj r o')) (h0 : I s0 w) (a₁ : α → Act)
    (hassign : ∀ (l : Nat) (x : α) (W : World) (K : Act → World → Prop), K (a₁ x) W →
      assign.wpIn (Fence.wide.inRound l) (n - 1 - 1) P (Exit.then K (fun _ _ _ => False)) { tmps := (ps.zip (encs x)).foldl (fun t (p, v) => t.setIfInBounds p v) a.tmps, defers := [] } W)
    (hbody : ∀ (l : Nat) (s : σ) (x : α) (W : World), I s W → X s x W → body.wpIn (Fence.wide.inRound l) (n - 1 - 1) P (OnOrRet w.heap.size (Im s) Ix W) (a₁ x) W)
    (hdone : ∀ (D : Nat) (s : σ) (W : World), w.heap.size ≤ D → fin s → Im s W → W.heap[D]? = some (.deferred (some [])) → Q .normal { a with defers := { target := .collected D, args := #[] } :: a.defers } W)
    (hstop : ∀ (D : Nat) (W : World), w.heap.size ≤ D → Ix W → W.heap[D]? = some (.deferred (some [])) → Code.ret.wpIn Fence.wide n P Q { a with defers := { target := .collected D, args := #[] } :: a.defers } W) :
    (Code.rangeFunc g ps assign body).wpIn Fence.wide n P Q a w := by
  refine wpIn_rangeFunc ?_
  intro fn hfn
  obtain ⟨rc, hrc⟩ : ∃ rc : LoopState → Option Code → Loop, rc = fun st pe => { state := st, pending := pe, fn, tmps := a.tmps, params := ps, assign, body, defers := w.heap.size } := ⟨_, rfl⟩
  obtain ⟨W1, hW1⟩ : ∃ W1, (w.alloc (.deferred (some []))).alloc (.loop (rc .ready none)) = W1 := ⟨_, rfl⟩
  have hs1 : W1.heap.size = w.heap.size + 2 := by rw [← hW1]; simp
  have hL1 : W1.heap[w.heap.size + 1]? = some (.loop (rc .ready none)) := by
    rw [← hW1]; have := World.alloc_heap_new (w.alloc (.deferred (some []))) (.loop (rc .ready none)); rwa [World.size_alloc] at this
  have hK1 : W1.heap[w.heap.size]? = some (.deferred (some [])) := by
    rw [← hW1]; exact (Below.heap_alloc _ _ _ (by simp)).trans (World.alloc_heap_new w _)
  have hb1 : Below w.heap.size w W1 := by
    rw [← hW1]; exact ((Below.refl _ w).alloc (Nat.le_refl _) _).alloc (by simp) _
  refine ⟨w.heap.size + 1, [{ target := .collected w.heap.size, args := #[] }], W1, { target := .fn (.func gf) lb, args := #[.func (.yield (w.heap.size + 1)) #[] #[]] }, W1, gf,
    #[.func (.yield (w.heap.size + 1)) #[] #[]] ++ lb, W1, ?_, ?_, fun _ _ => trivial, ?_, fun _ => h1, ?_⟩
  · rw [← hW1, hrc]; exact run_enterLoop_outer _ _ _ _ _
  · simp only [resolve, hg]
    simp [go_sem]
  · simp [invoke, go_sem, eg]
  refine (hit (w.heap.size + 1) (fun s W => I s W ∧ W.heap[w.heap.size + 1]? = some (.loop (rc .ready none)) ∧ W.heap[w.heap.size]? = some (.deferred (some [])))
    (fun s W => Im s W ∧ W.heap[w.heap.size + 1]? = some (.loop (rc .ready none)) ∧ W.heap[w.heap.size]? = some (.deferred (some [])))
    (fun W => Ix W ∧ W.heap[w.heap.size + 1]? = some (.loop (rc .done (some .ret))) ∧ W.heap[w.heap.size]? = some (.deferred (some []))) W1
    (fun s A h => hIT s A h.1) (fun s A h => hmT s A h.1)
    (fun s A B h hb => ⟨hIb s A B h.1 (hb.mono (by omega)), (hb.at_ (by omega) (Array.getElem?_eq_some_iff.1 h.2.1).1).trans h.2.1, (hb.at_ (by omega) (Array.getElem?_eq_some_iff.1 h.2.2).1).trans h.2.2⟩)
    (fun s s' A B h hn hb => ⟨hIb s' A B (hmi s s' A h.1 hn) (hb.mono (by omega)), (hb.at_ (by omega) (Array.getElem?_eq_some_iff.1 h.2.1).1).trans h.2.1, (hb.at_ (by omega) (Array.getElem?_eq_some_iff.1 h.2.2).1).trans h.2.2⟩)
    ?_ ⟨hIb s0 w W1 h0 (Soft.of_below hb1), hL1, hK1⟩).mono ?_
  · rintro s x W ⟨hi, hl, hk⟩ hx
    have hlt : w.heap.size + 1 < W.heap.size := (Array.getElem?_eq_some_iff.1 hl).1
    have hy := run_yield (P := P) (args := encs x) hl (by rw [hrc]; exact hps x)
    rw [hrc] at hy
    refine ⟨fn, _, assign, body, hy, roundIn_of_wpIn hfn (hassign _ x W _ ?_)⟩
    refine ⟨_, run_beginRound hl (by rw [hrc]), ?_⟩
    have hl2 : (W.putObj (w.heap.size + 1) (.loop { rc .ready none with state := .busy })).heap[w.heap.size + 1]? = some (.loop { rc .ready none with state := .busy }) := World.putObj_heap_same hlt
    have hk2 : (W.putObj (w.heap.size + 1) (.loop { rc .ready none with state := .busy })).heap[w.heap.size]? = some (.deferred (some [])) := (World.putObj_heap_other (by omega)).trans hk
    refine wpIn_mono (hbody _ s x _ (hIb s W _ hi (Soft.put (by omega) hl rfl _)) (hXp s x W _ _ _ hx hl rfl)) ?_
    have fin : ∀ (jump : Option Code) (W3 : World), KeptFrom w.heap.size (W.putObj (w.heap.size + 1) (.loop { rc .ready none with state := .busy })) W3 →
        (Instr.endRound (w.heap.size + 1) jump).run P W3 = .ok (.bool jump.isNone) (W3.putObj (w.heap.size + 1) (.loop (rc (if jump.isNone then .ready else .done) jump))) ∧
        (W3.putObj (w.heap.size + 1) (.loop (rc (if jump.isNone then .ready else .done) jump))).heap[w.heap.size + 1]? = some (.loop (rc (if jump.isNone then .ready else .done) jump)) ∧
        (W3.putObj (w.heap.size + 1) (.loop (rc (if jump.isNone then .ready else .done) jump))).heap[w.heap.size]? = some (.deferred (some [])) ∧
        KeptFrom W1.heap.size W (W3.putObj (w.heap.size + 1) (.loop (rc (if jump.isNone then .ready else .done) jump))) ∧ W3.heap[w.heap.size + 1]? = some (.loop { rc .ready none with state := .busy }) := fun jump W3 hk3 => by
      have hl3 := (hk3.block (w.heap.size + 1) (by omega) (by simp; omega)).trans hl2
      have hk4 := (hk3.block w.heap.size (Nat.le_refl _) (by simp; omega)).trans hk2
      have hr := run_endRound (P := P) jump hl3
      have hsz := hk3.size
      rw [World.putObj_size] at hsz
      refine ⟨?_, World.putObj_heap_same (by omega), (World.putObj_heap_other (by omega)).trans hk4, ⟨by simpa using hsz, fun q hq hql => ?_⟩, hl3⟩
      · rw [hrc] at hr ⊢
        exact hr
      · rw [World.putObj_heap_other (by omega), hk3.block q (by omega) (by simpa using hql), World.putObj_heap_other (by omega)]
    rintro e a3 W3 hp
    cases e with
    | normal =>
      obtain ⟨hk3, hi3⟩ := hp
      obtain ⟨hr, hl4, hk4, hkf, hl3⟩ := fin none W3 hk3
      exact ⟨_, _, hr, Or.inl ⟨rfl, ⟨hmb s W3 _ hi3 (Soft.put (by omega) hl3 rfl _), hl4, hk4⟩, hkf⟩⟩
    | ret =>
      obtain ⟨hk3, hi3⟩ := hp
      obtain ⟨hr, hl4, hk4, _, hl3⟩ := fin (some .ret) W3 hk3
      exact ⟨_, _, hr, Or.inr ⟨rfl, hxb W3 _ hi3 (Soft.put (by omega) hl3 rfl _), hl4, hk4⟩⟩
    | exit id => exact hp.elim
    | goto t => exact hp.elim
    | panic ch => exact hp.elim
    | outgrown => exact hp.elim
  · rintro e W2 ⟨⟨v, rfl⟩, (⟨s, hfin, hi, hl, hk⟩ | ⟨hi, hl, hk⟩)⟩
    · refine ⟨none, _, ?_, hdone _ s _ (Nat.le_refl _) hfin (hmb s W2 _ hi (Soft.put (show w.heap.size ≤ w.heap.size + 1 by omega) hl rfl (.loop { rc .ready none with state := .exhausted }))) ((World.putObj_heap_other (by omega)).trans hk)⟩
      have := run_endLoop (P := P) hl (by rw [hrc]; simp)
      rw [hrc] at this ⊢
      exact this
    · refine ⟨some .ret, _, ?_, hstop _ _ (Nat.le_refl _) (hxb W2 _ hi (Soft.put (show w.heap.size ≤ w.heap.size + 1 by omega) hl rfl (.loop { rc .done (some .ret) with state := .exhausted }))) ((World.putObj_heap_other (by omega)).trans hk)⟩
      have := run_endLoop (P := P) hl (by rw [hrc]; simp)
      rw [hrc] at this ⊢
      exact this

set_option maxRecDepth 100000 in
theorem choices35 (N k : Nat) (w : World) :
    Calls Tryz.prog 20 #[.int .i64 N, .int .i64 k] w fun e w' => e = .returned (.func (.func 49) #[] #[.pointer (some ⟨w.heap.size + 1, 0, none⟩), .pointer (some ⟨w.heap.size, 0, none⟩)]) ∧ (w.alloc (.cells #[.int .i64 N] TI)).alloc (.cells #[.int .i64 k] TI) = w' := by
  have hmf : ∀ (fn : Fn) (first cap : Array Value) (w : World), (Instr.makeFunc fn first cap).run Tryz.prog w = .ok (.func fn first cap) w := fun _ _ _ _ => rfl
  go_enter Tryz.func20, Tryz.ntmps20
  go_wp2_with fail
  go_ret
  exact ⟨rfl, rfl⟩

/-- what the choices are told from -/
def ChT (bc br k N : Nat) (W : World) : Prop := W.cell? ⟨bc, 0, none⟩ = some (.int .i64 k) ∧ W.cell? ⟨br, 0, none⟩ = some (.int .i64 N)
/-- a choice that is handed over -/
def ChX (b k N : Nat) (l : Nat → Nat) (x : Option Addr × Nat) (W : World) : Prop := Rise k N l ∧ Rd b W (chs l) x.1 k
def ChNx (k N : Nat) (l l' : Nat → Nat) : Prop := ∃ i, MovesAt k N l i ∧ l' = nxt l i
def ChFin (k N : Nat) (l : Nat → Nat) : Prop := ∀ r, r < k → N + r ≤ l r + k
/-- the choice that lies at block g -/
def chOf (W : World) (g j : Nat) : Nat := match W.cell? ⟨g, j, none⟩ with
  | some v => (intOf v).toNat
  | none => 0
theorem chOf_row {W : World} {g k : Nat} {l : Nat → Nat} (h : W.rowIs g TI k (chs l)) {j : Nat} (hj : j < k) : chOf W g j = l j := by
  unfold chOf
  rw [h.cell hj]
  simp [chs, intOf]
/-- how many choices are still to come -/
def chMs (k N g : Nat) (s5 : Value) (W : World) : Nat := match s5 with
  | .bool true => N ^ k - chV N (chOf W g) k
  | _ => 0
/-- in the loop of choices -/
def ChAt (k N g : Nat) (J Jm : (Nat → Nat) → World → Prop) (B : Nat) (s5 : Value) (W : World) : Prop :=
  ∃ l, Rise k N l ∧ W.rowIs g TI k (chs l) ∧ B ≤ W.heap.size ∧ ((s5 = .bool true ∧ J l W) ∨ (s5 = .bool false ∧ Jm l W ∧ ChFin k N l))

set_option maxRecDepth 100000 in
set_option maxHeartbeats 4000000 in
theorem choices_hand (n b bc br k N : Nat) (hk : 1 ≤ k) (hkN : k ≤ N) (hN : N ≤ 40) (hn : 1 ≤ n) (hb : ∀ W : World, ChT bc br k N W → b < W.heap.size) :
    HandsL n Tryz.prog 49 #[.pointer (some ⟨bc, 0, none⟩), .pointer (some ⟨br, 0, none⟩)] (fun x : Option Addr × Nat => #[.slice x.1 k x.2]) (ChT bc br k N) (ChX b k N) (fun i => i) (ChNx k N) (ChFin k N) := by
  intro l J Jm Jx W hJT hMT hJb hMn hY h0
  have HT := Lib.hid hJT
  have HMT := Lib.hid hMT
  have HJB := Lib.hid hJb
  have HMN := Lib.hid hMn
  have HY := Lib.hid hY
  have H0 := Lib.hid h0
  have hbW := hb W (hJT _ _ h0)
  have h00 := (hJT _ _ h0).1
  clear hJT hMT hJb hMn hY h0 hb
  refine callsIn_of_wp Tryz.func49 rfl trivial ?_ rfl
  simp only [Tryz.ntmps49, List.size_toArray, List.length_cons, List.length_nil, Nat.reduceAdd, Nat.reduceSub, Array.replicate_succ, Array.replicate_zero, List.push_toArray, List.append_toArray, List.nil_append, List.cons_append]
  gi_wp2_with fail
  refine ⟨trivial, (callsIn_wide.2 (from29 0 k (by omega) (by omega) W)).mono ?_⟩
  rintro e W1 ⟨rfl, hr1, hb1⟩
  have HS := Lib.hid (show ChAt k N W.heap.size J Jm W.heap.size (.bool true) W1 from ⟨fun i => i, first_rise hkN, hr1.congr (fun j _ => by simp only [i64s, frm, chs, Nat.zero_add]), hb1.size, Or.inl ⟨rfl, HJB.out _ _ _ H0.out (Soft.of_below hb1)⟩⟩)
  obtain ⟨g, hg⟩ : ∃ g, W.heap.size = g := ⟨_, rfl⟩
  rw [hg]
  rw [hg] at HS HJB HMN HY hbW
  clear hr1 hb1 H0 h00 hg
  gi_wp2_with fail
  gi_loopw [5] (fun s5 wr => ChAt k N g J Jm g s5 wr) (fun s5 wr => chMs k N g s5 wr)
  case atStart => exact HS.out
  case round =>
    clear HS
    obtain ⟨ch, hR, hrow, hsz, hcase⟩ := hrel
    obtain ⟨w1, hw1⟩ : ∃ w1, w1 = wr := ⟨_, rfl⟩
    subst hw1
    have HR := Lib.hid hR
    have HRW := Lib.hid hrow
    rcases hcase with ⟨rfl, hJ⟩ | ⟨rfl, hM, hF⟩
    · have HJ := Lib.hid hJ
      have hgl := hrow.lt
      have HRD := Lib.hid (show Rd b w1 (i64s (fun j => ((ch j : Nat) : Int))) (some ⟨g, 0, none⟩) k from Rd.of_row hrow (by omega) (Nat.le_refl _))
      clear hR hrow hJ
      gi_wp2_with fail
      refine ⟨trivial, (callsIn_wide.2 (clone38 b _ (some ⟨g, 0, none⟩) k k (by omega) w1 HRD.out)).mono ?_⟩
      rintro e w2 ⟨A2, c2, rfl, _, hrd2, hb2⟩
      have HJ2 := Lib.hid (HJB.out _ _ _ HJ.out (Soft.of_below hb2))
      have HX2 := Lib.hid (show ChX b k N ch (A2, c2) w2 from ⟨HR.out, hrd2 b (by omega)⟩)
      have HRW2 := Lib.hid (HRW.out.of_block (hb2.block _ hgl))
      have hsz2 := hb2.size
      obtain ⟨fn, tmps, assign, body, hy, hRd⟩ := HY.out ch (A2, c2) w2 HJ2.out HX2.out
      clear hrd2 hb2 HRD HJ
      gi_wp2_with fail
      refine hRd.mono ?_
      rintro e w3 (⟨rfl, hM3, hK3⟩ | ⟨rfl, hx3⟩)
      · have HM3 := Lib.hid hM3
        have HRW3 := Lib.hid (HRW2.out.of_block (hK3.block g (Nat.le_refl _) HRW2.out.lt))
        have hsz3 := hK3.size
        have hc3 := (HMT.out _ _ hM3).2
        clear hM3 hK3 hy hRd HX2 HJ2 HRW2
        gi_wp2_with fail
        refine ⟨trivial, (callsIn_wide.2 (moveOn53 k N g ch hk hkN hN HR.out _ HRW3.out)).mono ?_⟩
        rintro e w4 (⟨i, hmv, rfl, hr4, ht4⟩ | ⟨hlast, rfl, rfl⟩)
        · have HS := Lib.hid (show ChAt k N g J Jm g (.bool true) w4 from ⟨nxt ch i, nxt_rise HR.out hmv, hr4, by have := ht4.size; omega, Or.inl ⟨rfl, HMN.out _ _ _ _ HM3.out ⟨i, hmv, rfl⟩ (Soft.of_turned ht4 (Nat.le_refl _) HRW3.out)⟩⟩)
          have HME := Lib.hid (show chMs k N g (.bool true) w4 < chMs k N g (.bool true) w1 from by
            show N ^ k - chV N (chOf w4 g) k < N ^ k - chV N (chOf w1 g) k
            rw [chV_same (l' := nxt ch i) k (fun j hj => chOf_row hr4 hj), chV_same (l' := ch) k (fun j hj => chOf_row HRW.out hj)]
            have h1 := chV_step HR.out hmv
            have h2 := chV_lt k (nxt_rise HR.out hmv).1
            omega)
          clear hmv hr4 ht4 hc3
          gi_wp2_with fail
          exact ⟨HS.out, HME.out⟩
        · have HS := Lib.hid (show ChAt k N g J Jm g (.bool false) w3 from ⟨ch, HR.out, HRW3.out, by omega, Or.inr ⟨rfl, HM3.out, hlast⟩⟩)
          have HME := Lib.hid (show chMs k N g (.bool false) w3 < chMs k N g (.bool true) w1 from by
            show 0 < N ^ k - chV N (chOf w1 g) k
            rw [chV_same (l' := ch) k (fun j hj => chOf_row HRW.out hj)]
            have h2 := chV_lt k HR.out.1
            omega)
          clear hlast hc3
          gi_wp2_with fail
          exact ⟨HS.out, HME.out⟩
      · have HX3 := Lib.hid hx3
        clear hx3 hy hRd
        gi_wp2_with fail
        refine bodyPost_ret (results_none rfl _ _ _) rfl ?_
        exact ⟨⟨_, rfl⟩, Or.inr HX3.out⟩
    · have HE := Lib.hid (show (∃ s, ChFin k N s ∧ Jm s w1) ∨ Jx w1 from Or.inl ⟨ch, hF, hM⟩)
      clear hR hrow hM hF
      gi_wp2_with fail
      go_end0
      exact ⟨⟨_, rfl⟩, HE.out⟩

/-- what haveInverse tells -/
def HavSaid (q : FP) (b wd k : Nat) (G : Nat → Nat → Int) (w : World) (e : Ending) (w' : World) : Prop :=
  ∃ t, e = .returned (.tuple #[.bool t, .int .i64 0]) ∧ (t = true ↔ rk k (elM q G) k = k) ∧ Fld q.p b wd w' ∧ Turned b w w'

set_option maxRecDepth 100000 in
set_option maxHeartbeats 2000000 in
theorem have36 (q : FP) (b wd N k : Nat) (F : Nat → Nat → Int) (A B : Option Addr) (ca cb : Nat) (l : Nat → Nat) (hmay : mayP (M.ord q.p) N (fun _ => k) F) (hl : ∀ r, r < k → l r < N) (w : World) (hf : Fld q.p b wd w) (hm : Mx b w F (fun _ => k) A N) (hr : Rd b w (chs l) B k) :
    Calls Tryz.prog 21 #[.pointer (some ⟨b, 0, none⟩), .slice A N ca, .slice B k cb] w (HavSaid q b wd k (fun r => F (l r)) w) := by
  have hbl := hf.lt
  have HF := Lib.hid hf
  have HP := Lib.hid (pick12 b wd (M.ord q.p) hf.1.kind F (fun _ => k) A B N k ca cb (fun j => ((l j : Nat) : Int)) w hf.c0 hm hr)
  have HPP := Lib.hid (show pickP (M.ord q.p) N (fun _ => k) F k (fun j => ((l j : Nat) : Int)) from ⟨hmay, hmay.2.1, fun r hr => by have := hl r hr; dsimp only; omega⟩)
  have HSQ := Lib.hid (show sqP (M.ord q.p) k (fun _ => k) (fun r => F (l r)) from ⟨⟨hmay.2.1, hmay.2.1, fun r hr => ⟨rfl, (hmay.2.2 (l r) (hl r hr)).2⟩⟩, rfl⟩)
  clear hf hm hr hmay hl
  go_enter Tryz.func21, Tryz.ntmps21
  go_wp2_with fail
  refine HP.out.mono ?_
  rintro e w1 ⟨t, v, rfl, ht, hv⟩
  obtain rfl : t = true := ht.2 HPP.out
  obtain ⟨A1, c1, rfl, _, hx1, hb1⟩ := hv
  have HX := Lib.hid (show Mx b w1 (fun r => F (l r)) (fun _ => k) A1 k from hx1 b hbl)
  have HB := Lib.hid hb1
  simp only [errOf, if_true, cond]
  clear ht hx1 hb1 HP HPP
  go_wp2_with fail
  refine (inverse12 q b wd k (fun _ => k) (fun r => F (l r)) A1 c1 _ (HF.out.of_below HB.out) HX.out).mono ?_
  rintro e w2 ⟨s, t, A2, c2, rfl, hs, ht, _, _, hf2, ht2⟩
  obtain rfl : s = true := hs.2 HSQ.out
  have HE := Lib.hid (show HavSaid q b wd k (fun r => F (l r)) w (.returned (.tuple #[.bool t, .int .i64 0])) w2 from ⟨t, rfl, ht rfl, hf2, (Turned.of_below HB.out).trans ht2⟩)
  clear hs ht hf2 ht2 HX HB HF HSQ
  cases t
  · simp only [err2, cond]
    go_wp2_with fail
    go_ret2
    exact HE.out
  · simp only [err2, cond]
    go_wp2_with fail
    go_ret2
    exact HE.out
end Go.Proofs.YtgcochamjicjiaaGreat
