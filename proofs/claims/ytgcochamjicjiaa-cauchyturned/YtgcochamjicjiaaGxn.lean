/- Lists that are appended to beside one another. An append in a region that draws its order: what is appended may be nothing at all. Contracts of gambrelref05: scaled, added and pivot. The contract of gambrelref05's reduced. Contracts of gambrelref05: Inverse, Rank and Solve. -/
import Derived.Test.YtgcochamjicjiaaGxh
import Derived.Test.YtgcochamjicjiaaGxi
import Derived.Laws.AppendOwnNone
import Derived.Deep.AppendLies
import Derived.Test.YtgcochamjicjiaaGxm
import Derived.Test.YtgcochamjicjiaaGxk

namespace Go.Proofs.Ytgcochamjicjiaa
open Go.RowKit

/-- two slices of the call's own lie in unlike blocks -/
def Apart (u v : Value) : Prop := u.ownBlock = none ∨ u.ownBlock ≠ v.ownBlock
theorem Apart.symm {u v : Value} (h : Apart u v) : Apart v u := by
  unfold Apart at *
  rcases h with h | h
  · cases e : v.ownBlock
    · exact Or.inl rfl
    · exact Or.inr (by rw [h]; simp)
  · exact Or.inr (Ne.symm h)
theorem Apart.nil (v : Value) : Apart nilS v := Or.inl rfl
theorem Apart.nil' (v : Value) : Apart v nilS := (Apart.nil v).symm

/-- what is appended to v leaves another list u as it was, and apart -/
theorem app_other {wr w1 : World} {o : Obj} {base e m g : Nat} {ys : List Value} {u v v' : Value} (hu : wr.ownsRow base e 1 u m ys) (hap : Apart u v) (hgr : (wr.alloc o).grownBy w1 v.ownBlock) (hg : v.ownBlock = some g ∨ g = wr.heap.size + 1) (hv' : v'.ownBlock = some g) :
    w1.ownsRow base e 1 u m ys ∧ Apart u v' := by
  refine ⟨(hu.alloc o).kept hgr hap, ?_⟩
  rcases hap with hap | hap
  · exact Or.inl hap
  · refine Or.inr ?_
    rw [hv']
    rcases hg with hg | hg
    · rw [← hg]; exact hap
    · intro h
      have := (hu.lt g h).2
      omega
/-- a block that is laid leaves it too -/
theorem own_alloc {wr : World} {o : Obj} {base e m : Nat} {ys : List Value} {u : Value} (hu : wr.ownsRow base e 1 u m ys) : (wr.alloc o).ownsRow base e 1 u m ys := hu.alloc o

/-- three lists that are appended to, behind k elements each -/
structure Tri (w : World) (X Y Z : Nat → Value) (k : Nat) (vx vy vz : Value) (wr : World) : Prop where
  below : Below w.heap.size w wr
  x : wr.ownsRow w.heap.size TI 1 vx k ((List.range k).map X)
  y : wr.ownsRow w.heap.size TI 1 vy k ((List.range k).map Y)
  z : wr.ownsRow w.heap.size TI 1 vz k ((List.range k).map Z)
  xy : Apart vx vy
  xz : Apart vx vz
  yz : Apart vy vz
theorem Tri.start (w : World) (X Y Z : Nat → Value) : Tri w X Y Z 0 nilS nilS nilS w := ⟨Below.refl _ _, World.ownsRow_nil _ _ _ _, World.ownsRow_nil _ _ _ _, World.ownsRow_nil _ _ _ _, Apart.nil _, Apart.nil _, Apart.nil _⟩
end Go.Proofs.Ytgcochamjicjiaa

namespace Go.Proofs.Ytgcochamjicjiaa
open Go.RowKit

theorem step_append_rd {P : Program} (w : World) {ops : Array Oper} {o : Oper} {a : Act} {K : Act → World → Prop} {Q : Exit → Act → World → Prop} {E : Prop} (hgd : o.guard = none) (s x : Operand) (t : TypeId)
    (ho : o.op = .call { callee := .builtin .append, args := #[s, x], argTypes := #[t, t] }) (base : Nat) (e : TypeId) (i : TypeInfo) (z : Value) (bytes : Nat) (ht : P.underlying t = some (.slice e)) (hi : P.info? e = some i) (hz : i.zero = some z)
    (hsize : i.size = 1) (hby : i.bytes = bytes) (hzs : z.cells.size = 1) (v : Value) (n : Nat) (xs : List Value) (hs : a.eval s = v) (hown : w.ownsRow base e 1 v n xs)
    (b : Nat) (k : Nat → Value) (A : Option Addr) (m c : Nat) (hx : a.eval x = .slice A m c) (hc : A = none → c = 0) (hr : Rd b w k A m) (h1 : ∀ j, (k j).oneCell' = true)
    (h63 : n + m ≤ maxLen) (hbytes : (n + m) * bytes ≤ 140737488355328) (hbase : base ≤ w.heap.size) (H : Nat) (hH : w.heap.size = H)
    (h : ∀ v' w', w'.ownsRow base e 1 v' (n + m) (xs ++ (List.range m).map k) → w.grownBy w' v.ownBlock → (v'.ownBlock = v.ownBlock ∨ v'.ownBlock = some H) → K (a.put o.dst v') w') :
    if Region.wanted o (yielded ops a.tmps) = true then Oper.wp P o a w K Q else E := by
  have hw : Region.wanted o (yielded ops a.tmps) = true := by simp [Region.wanted, hgd]
  rw [if_pos hw]
  rcases A with _ | ad
  · have hm : m = 0 := by
      rcases Nat.eq_zero_or_pos m with h0 | h0
      · exact h0
      · obtain ⟨_, e, _⟩ := hr h0
        cases e
    subst hm
    obtain rfl := hc rfl
    have hrun := run_append_owned_none (P := P) (w := w) base t o.type e i 1 ht hi v n xs hown
    unfold Oper.wp
    simp [execOp, ho, resolve, invoke, builtin, hs, hx, hrun, Result.andThen]
    exact h v w (by simpa using hown) (World.grownBy.refl w _) (Or.inl rfl)
  · obtain ⟨v', w', hrun, h2, h3, _, h5⟩ := run_append_own_at (P := P) w base t o.type e i z 1 bytes ht hi hz hsize hby hzs (by decide) v n xs hown ad m c ((List.range m).map k) (by simp) (cells_rd hr) (fun u hu => by obtain ⟨j, _, rfl⟩ := List.mem_map.1 hu; exact h1 j) h63 hbytes hbase
    unfold Oper.wp execOp
    simp only [ho, resolve, invoke, builtin, Sem.run_bind, Sem.run_pure, Result.andThen_ok, List.map_toArray, List.map_cons, List.map_nil, hs, hx, hrun]
    exact h v' w' h2 h3 (by rw [← hH]; exact h5)

/-- what is laid is the call's own -/
theorem own_fresh (w : World) (base e : Nat) (cs : Array Value) (n H : Nat) (hH : w.heap.size = H) (hb : base ≤ H) (hm : n ≤ maxLen) (hs : cs.size = n) : (w.alloc (.cells cs e)).ownsRow base e 1 (.slice (some ⟨H, 0, none⟩) n n) n cs.toList := by
  subst hH
  exact World.ownsRow_lit w cs n hb hm (by omega)
theorem own_fresh0 (w : World) (base e H : Nat) (hH : w.heap.size = H) (hb : base ≤ H) : (w.alloc (.cells #[] e)).ownsRow base e 1 (.slice (some ⟨H, 0, none⟩) 0 0) 0 [] := own_fresh w base e #[] 0 H hH hb (by unfold maxLen; omega) rfl
theorem own_fresh1 (w : World) (base e H : Nat) (u : Value) (hH : w.heap.size = H) (hb : base ≤ H) : (w.alloc (.cells #[u] e)).ownsRow base e 1 (.slice (some ⟨H, 0, none⟩) 1 1) 1 [u] := own_fresh w base e #[u] 1 H hH hb (by unfold maxLen; omega) rfl
theorem own_freshM (w : World) (base e n H : Nat) (u : Value) (hH : w.heap.size = H) (hb : base ≤ H) (hn : n ≤ 1000) : (w.alloc (.cells (madeCells #[u] n) e)).ownsRow base e 1 (.slice (some ⟨H, 0, none⟩) n n) n (madeCells #[u] n).toList := own_fresh w base e _ n H hH hb (by unfold maxLen; omega) (size_madeCells _ _)
/-- .. what was appended to, given back too -/
theorem step_append_rd' {P : Program} (w : World) {ops : Array Oper} {o : Oper} {a : Act} {K : Act → World → Prop} {Q : Exit → Act → World → Prop} {E : Prop} (hgd : o.guard = none) (s x : Operand) (t : TypeId)
    (ho : o.op = .call { callee := .builtin .append, args := #[s, x], argTypes := #[t, t] }) (base : Nat) (e : TypeId) (i : TypeInfo) (z : Value) (bytes : Nat) (ht : P.underlying t = some (.slice e)) (hi : P.info? e = some i) (hz : i.zero = some z)
    (hsize : i.size = 1) (hby : i.bytes = bytes) (hzs : z.cells.size = 1) (v : Value) (n : Nat) (xs : List Value) (hs : a.eval s = v) (hown : w.ownsRow base e 1 v n xs)
    (b : Nat) (k : Nat → Value) (A : Option Addr) (m c : Nat) (hx : a.eval x = .slice A m c) (hc : A = none → c = 0) (hr : Rd b w k A m) (h1 : ∀ j, (k j).oneCell' = true)
    (h63 : n + m ≤ maxLen) (hbytes : (n + m) * bytes ≤ 140737488355328) (hbase : base ≤ w.heap.size)
    (h : ∀ v' w', w.ownsRow base e 1 v n xs → w'.ownsRow base e 1 v' (n + m) (xs ++ (List.range m).map k) → w.grownBy w' v.ownBlock → K (a.put o.dst v') w') :
    if Region.wanted o (yielded ops a.tmps) = true then Oper.wp P o a w K Q else E :=
  step_append_rd w hgd s x t ho base e i z bytes ht hi hz hsize hby hzs v n xs hs hown b k A m c hx hc hr h1 h63 hbytes hbase _ rfl fun v' w' h2 h3 _ => h v' w' hown h2 h3

/-- rows of unlike kinds lie apart -/
theorem keep_kind {W w' : World} {base e e' n n' : Nat} {v v' : Value} {xs xs' : List Value} (hold : W.ownsRow base e 1 v n xs) (hgr : W.grownBy w' v.ownBlock) (hne : e' ≠ e) (h : W.ownsRow base e' 1 v' n' xs') : w'.ownsRow base e' 1 v' n' xs' := by
  refine h.kept hgr ?_
  rcases h.2 with ⟨rfl, _⟩ | ⟨g, cap, cur, rfl, _, hg, _⟩
  · exact Or.inl rfl
  · refine Or.inr ?_
    rcases hold.2 with ⟨rfl, _⟩ | ⟨g', cap', cur', rfl, _, hg', _⟩
    · simp [Value.ownBlock]
    · simp only [Value.ownBlock]
      intro he
      injection he with he
      subst he
      rw [hg] at hg'
      injection hg' with hg'
      injection hg' with _ h2
      exact hne h2
theorem below_grown {w0 W w' : World} {e n : Nat} {v : Value} {xs : List Value} (h : Below w0.heap.size w0 W) (ho : W.ownsRow w0.heap.size e 1 v n xs) (hg : W.grownBy w' v.ownBlock) : Below w0.heap.size w0 w' := h.grown hg h.size (fun q hq => (ho.lt q hq).1)
/-- the row at g, of eleven numbers -/
def row11 (g : Nat) : Nat → Value := fun _ => .slice (some ⟨g, 0, none⟩) 11 11
theorem row11_one (g j : Nat) : (row11 g j).oneCell' = true := rfl
theorem rd_row {W : World} {base e b g gm : Nat} (h : W.ownsRow base e 1 (.slice (some ⟨g, 0, none⟩) 1 1) 1 [.slice (some ⟨gm, 0, none⟩) 11 11]) (hb : b < base) : Rd b W (row11 gm) (some ⟨g, 0, none⟩) 1 := by
  obtain ⟨A, c, e1, _, h3⟩ := Rd.of_own (k := row11 gm) (b := b) h hb
  injection e1 with e1
  rw [e1]
  exact h3
theorem rd_one {W : World} {base e b g : Nat} {u : Value} (h : W.ownsRow base e 1 (.slice (some ⟨g, 0, none⟩) 1 1) 1 [u]) (hb : b < base) : Rd b W (fun _ => u) (some ⟨g, 0, none⟩) 1 := by
  obtain ⟨A, c, e1, _, h3⟩ := Rd.of_own (k := fun _ => u) (b := b) h hb
  injection e1 with e1
  rw [e1]
  exact h3
theorem made11 : (madeCells #[Value.int .i64 0] 11).toList = (List.range 11).map (i64s (fun _ => 0)) := by
  apply List.ext_getElem
  · simp [size_madeCells]
  · intro i h1 h2
    simp [madeCells, i64s, Nat.mod_one]

/-- the rows of a, and one more: eleven noughts -/
def oddF (n : Nat) (F : Nat → Nat → Int) : Nat → Nat → Int := joinF n F (fun _ _ => 0)
def oddL (n : Nat) (La : Nat → Nat) : Nat → Nat := joinL n La (fun _ => 11)
def Odd (b n : Nat) (As : Nat → Option Addr) (La Cs : Nat → Nat) (v : Value) (w : World) : Prop :=
  ∃ A c gm, v = .slice A (n + 1) c ∧ Rd b w (joinV n (slis As La Cs) (row11 gm)) A (n + 1) ∧ Rd b w (i64s (fun _ => 0)) (some ⟨gm, 0, none⟩) 11
theorem odd_fin {W w5 : World} {base b n gm : Nat} {As : Nat → Option Addr} {La Cs : Nat → Nat} {v3 v5 : Value} {xs : List Value} (hb : b < base) (hold : W.ownsRow base TIs 1 v3 (0 + n) xs) (hgr : W.grownBy w5 v3.ownBlock)
    (hown : w5.ownsRow base TIs 1 v5 (0 + n + 1) ([] ++ (List.range n).map (slis As La Cs) ++ (List.range 1).map (row11 gm)))
    (hz : W.ownsRow base TI 1 (.slice (some ⟨gm, 0, none⟩) 11 11) 11 (madeCells #[.int .i64 0] 11).toList) : Odd b n As La Cs v5 w5 := by
  have h1 := keep_kind hold hgr (by decide) hz
  rw [made11] at h1
  rw [Nat.zero_add, List.nil_append, ← joinV_all] at hown
  obtain ⟨A, c, rfl, _, h2⟩ := Rd.of_own hown hb
  obtain ⟨A', c', e, _, h3⟩ := Rd.of_own h1 hb
  injection e with e
  subst e
  exact ⟨A, c, gm, rfl, h2, h3⟩
theorem odd_mx {w5 : World} {b n : Nat} {F : Nat → Nat → Int} {As : Nat → Option Addr} {La Cs : Nat → Nat} {v : Value} (h : Odd b n As La Cs v w5) (hr : ∀ r, r < n → Rd b w5 (i64s (F r)) (As r) (La r)) :
    ∃ A c, v = .slice A (n + 1) c ∧ Mx b w5 (oddF n F) (oddL n La) A (n + 1) := by
  obtain ⟨A, c, gm, rfl, h1, h2⟩ := h
  refine ⟨A, c, rfl, fun r => if r < n then As r else some ⟨gm, 0, none⟩, fun r => if r < n then Cs r else 11, h1.congr (fun j _ => ?_), fun r _ => ?_⟩
  · simp only [joinV, slis, oddL, joinL, row11]
    split <;> rfl
  · simp only [oddF, joinF, oddL, joinL]
    by_cases hlt : r < n
    · rw [if_pos hlt, if_pos hlt, if_pos hlt]; exact hr r hlt
    · rw [if_neg hlt, if_neg hlt, if_neg hlt]; exact h2
theorem odd_no {c n : Nat} {F : Nat → Nat → Int} {La : Nat → Nat} (h0 : n ≠ 0) (h : ∀ r, r < n → La r ≤ 10) : ¬ mayP c (n + 1) (oddL n La) (oddF n F) := by
  rintro ⟨_, _, h3⟩
  have h4 := (h3 n (by omega)).1
  unfold oddL joinL at h4
  rw [if_neg (by omega), if_pos (by omega)] at h4
  have h5 := h 0 (by omega)
  dsimp only at h4
  omega
/-- the row of one nought that was laid just now -/
theorem rd_nought {w : World} {b : Nat} (hb : b < w.heap.size) : Rd b (w.alloc (.cells #[.int .i64 0] TI)) (i64s (fun _ => 0)) (some ⟨w.heap.size, 0, none⟩) 1 := rd_one (own_fresh1 w w.heap.size TI _ _ rfl (Nat.le_refl _)) hb
end Go.Proofs.Ytgcochamjicjiaa

namespace Go.Proofs.Ytgcochamjicjiaa
open Go.RowKit

/-- in the loops of scaled and added -/
def ListAt (n : Nat) (l : Nat → Int) (w : World) (so si : Value) (wr : World) : Prop := ∃ k : Nat, k ≤ n ∧ si = .int .i64 k ∧ App w TI (i64s l) k so wr

/-- in pivot's loop -/
def RPivAt {q : FP} (n : Nat) (X : Nat → Nat → El q) (j t : Nat) (si : Value) : Prop := ∃ i : Nat, t ≤ i ∧ i ≤ n ∧ si = .int .i64 i ∧ ∀ r, t ≤ r → r < i → X r j = 0

/-- what pivot tells -/
def RPivSaid {q : FP} (n : Nat) (X : Nat → Nat → El q) (j t : Nat) (w : World) (e : Ending) (w' : World) : Prop := e = .returned (.int .i64 (if fnd X j (n - t) t < n then (fnd X j (n - t) t : Nat) else -1)) ∧ w = w'
end Go.Proofs.Ytgcochamjicjiaa

namespace Go.Proofs.Ytgcochamjicjiaa
open Go.RowKit

theorem rd_set {b g i : Nat} {w : World} {k : Nat → Value} {A : Option Addr} {n : Nat} {v : Value} (hg : Rd g w k A n) (hb : Rd b w k A n) : Rd b (w.setCell ⟨g, i, none⟩ v) k A n := fun hn => by
  obtain ⟨ad, rfl, h1, h2, h3⟩ := hg hn
  obtain ⟨ad', e', h4, _⟩ := hb hn
  injection e' with e'
  subst e'
  exact ⟨_, rfl, h4, by simpa [World.setCell] using h2, fun j hj => (World.cell?_of_block (by rw [block_of_add]; exact Below.heap_setCell _ _ _ _ h1)).trans (h3 j hj)⟩
theorem below_set {w wr : World} {g i : Nat} (h : Below w.heap.size w wr) (hg : w.heap.size ≤ g) (v : Value) : Below w.heap.size w (wr.setCell ⟨g, i, none⟩ v) :=
  ⟨h.os, h.tape, h.output, by simpa [World.setCell] using h.size, fun k hk => (Below.heap_setCell _ _ _ _ (by simp; omega)).trans (h.block k hk)⟩

section
variable {q : FP}
/-- rows that are changed for others, one by one: n slices at block g -/
structure ROut (K : Prop) (b n m g cap : Nat) (X : Nat → Nat → El q) (w wr : World) : Prop where
  below : Below w.heap.size w wr
  low : w.heap.size ≤ g
  out : ∃ (T : Nat → Value) (As : Nat → Option Addr) (Cs : Nat → Nat), wr.rowIs g TIs cap T ∧ (∀ r, r < n → T r = .slice (As r) m (Cs r)) ∧ ∀ r, r < n → ∀ h, (h = b ∨ h = g) → Rd h wr (i64s (ivs X r)) (As r) m ∧ (K → m ≤ Cs r)

variable {K : Prop} {b n m g cap : Nat} {X : Nat → Nat → El q} {w wr w' : World}
theorem ROut.lt (h : ROut K b n m g cap X w wr) : g < wr.heap.size := by
  obtain ⟨T, As, Cs, h1, _⟩ := h.out
  exact h1.lt
theorem ROut.next (h : ROut K b n m g cap X w wr) (hb : Below wr.heap.size wr w') : ROut K b n m g cap X w w' := by
  obtain ⟨T, As, Cs, h1, h2, h3⟩ := h.out
  exact ⟨below_tr h.below hb, h.low, T, As, Cs, h1.of_block (hb.block g h1.lt), h2, fun r hr k hk => ⟨(h3 r hr k hk).1.below hb, (h3 r hr k hk).2⟩⟩
theorem ROut.congr {X' : Nat → Nat → El q} (h : ROut K b n m g cap X w wr) (he : ∀ r, r < n → ∀ j, j < m → X r j = X' r j) : ROut K b n m g cap X' w wr := by
  obtain ⟨T, As, Cs, h1, h2, h3⟩ := h.out
  exact ⟨h.below, h.low, T, As, Cs, h1, h2, fun r hr k hk => ⟨(h3 r hr k hk).1.congr (fun j hj => by simp only [i64s, ivs]; rw [he r hr j hj]), (h3 r hr k hk).2⟩⟩
theorem ROut.cell (h : ROut K b n m g cap X w wr) (hc : n ≤ cap) {r : Nat} (hr : r < n) : ∃ A c, wr.cell? ⟨g, r, none⟩ = some (.slice A m c) ∧ wr.frozen? ⟨g, r, none⟩ = false ∧ (∀ h, (h = b ∨ h = g) → Rd h wr (i64s (ivs X r)) A m) ∧ (K → m ≤ c) := by
  obtain ⟨T, As, Cs, h1, h2, h3⟩ := h.out
  exact ⟨As r, Cs r, by rw [h1.cell (i := r) (by omega), h2 r hr], h1.frozen r, fun h hh => (h3 r hr h hh).1, (h3 r hr b (Or.inl rfl)).2⟩
theorem ROut.set (h : ROut K b n m g cap X w wr) (r : Nat) (x : Nat → El q) {A : Option Addr} {c : Nat} (hx : ∀ h, (h = b ∨ h = g) → Rd h wr (i64s (fun j => ((x j).val : Int))) A m) (hk : K → m ≤ c) :
    ROut K b n m g cap (fun r' j => if r' = r then x j else X r' j) w (wr.setCell ⟨g, r, none⟩ (.slice A m c)) := by
  obtain ⟨T, As, Cs, h1, h2, h3⟩ := h.out
  refine ⟨below_set h.below h.low _, h.low, fun i => if i = r then .slice A m c else T i, fun i => if i = r then A else As i, fun i => if i = r then c else Cs i, h1.set r _, fun i hi => ?_, fun i hi k hk' => ?_⟩
  · by_cases e : i = r
    · simp only [if_pos e]
    · simp only [if_neg e]
      exact h2 i hi
  · by_cases e : i = r
    · have e' : i64s (ivs (fun r' j => if r' = r then x j else X r' j) i) = i64s (fun j => ((x j).val : Int)) := by
        funext j
        show Value.int .i64 (((if i = r then x j else X i j).val : Nat) : Int) = _
        rw [if_pos e]
      rw [e']
      simp only [if_pos e]
      exact ⟨rd_set (hx g (Or.inr rfl)) (hx k hk'), hk⟩
    · have e' : i64s (ivs (fun r' j => if r' = r then x j else X r' j) i) = i64s (ivs X i) := by
        funext j
        show Value.int .i64 (((if i = r then x j else X i j).val : Nat) : Int) = _
        rw [if_neg e]
      rw [e']
      simp only [if_neg e]
      exact ⟨rd_set (h3 i hi g (Or.inr rfl)).1 (h3 i hi k hk').1, (h3 i hi k hk').2⟩
theorem ROut.start {v : Value} {As : Nat → Option Addr} {Cs : Nat → Nat} (ho : wr.ownsRow w.heap.size TIs 1 v n ((List.range n).map (slis As (fun _ => m) Cs))) (hn : 0 < n) (hb : Below w.heap.size w wr) (hr : ∀ r, r < n → Rd b w (i64s (ivs X r)) (As r) m) (hk0 : K → ∀ r, r < n → m ≤ Cs r) :
    ∃ g cap, v = .slice (some ⟨g, 0, none⟩) n cap ∧ n ≤ cap ∧ ROut K b n m g cap X w wr := by
  have hcells := fun g (hg : v.ownBlock = some g) => ho.cells (g := g) hg
  rcases ho.2 with ⟨rfl, hn0⟩ | ⟨g, cap, cur, rfl, hg, hh, hc, _, hs, ht⟩
  · omega
  · have hs' : cur.size = cap := by omega
    have hrow : wr.rowIs g TIs cap (fun i => (cur[i]?).getD undef) := ⟨cur, hh, hs', fun i hi => by
      show cur[i]? = some ((cur[i]?).getD undef)
      rw [Array.getElem?_eq_getElem (by omega)]
      rfl⟩
    refine ⟨g, cap, rfl, hc, hb, hg, _, As, Cs, hrow, fun r hr' => ?_, fun r hr' k hk => ?_⟩
    · have h1 := hrow.cell (i := r) (by omega)
      have h2 := hcells g rfl r (slis As (fun _ => m) Cs r) (by rw [List.getElem?_map, List.getElem?_range (by omega)]; rfl)
      have h3 : wr.cell? ⟨g, r, none⟩ = some (slis As (fun _ => m) Cs r) := by simpa [Addr.add_lit] using h2
      rw [h1] at h3
      injection h3
    · refine ⟨?_, fun h => hk0 h r hr'⟩
      rcases hk with rfl | rfl
      · exact (hr r hr').below hb
      · exact ((hr r hr').other hg).below hb
theorem ROut.rows (h : ROut K b n m g cap X w wr) (hc : n ≤ cap) (hb : b < w.heap.size) : ∃ As Cs, Rd b wr (slis As (fun _ => m) Cs) (some ⟨g, 0, none⟩) n ∧ ∀ r, r < n → Rd b wr (i64s (ivs X r)) (As r) m ∧ (K → m ≤ Cs r) := by
  obtain ⟨T, As, Cs, h1, h2, h3⟩ := h.out
  have := h.low
  exact ⟨As, Cs, (Rd.of_row (b := b) h1 (by omega) hc).congr (fun r hr => h2 r hr), fun r hr => h3 r hr b (Or.inl rfl)⟩
theorem ROut.mx (h : ROut K b n m g cap X w wr) (hc : n ≤ cap) (hb : b < w.heap.size) : Mx b wr (ivs X) (fun _ => m) (some ⟨g, 0, none⟩) n := by
  obtain ⟨As, Cs, h1, h2⟩ := h.rows hc hb
  exact ⟨As, Cs, h1, fun r hr => (h2 r hr).1⟩

/-- nothing is reduced any more when each row has a pivot -/
theorem red_stop {n c : Nat} {X : Nat → Nat → El q} (h : n ≤ (red n X c).2) : ∀ d, red n X (c + d) = red n X c
  | 0 => rfl
  | d + 1 => by
    show stp n (red n X (c + d)) (c + d) = _
    have hle : (red n X (c + d)).2 ≤ n := (rk_le n X (c + d)).1
    rw [red_stop h d] at hle ⊢
    exact stp_no hle (fun i h1 h2 => absurd h2 (by omega))
/-- the rows, of which i are cleared -/
def clrI (F : Nat → Nat → El q) (t j i r k : Nat) : El q := if r = t then (F t j).inv * F t k else if r < i then F r k + F r j * ((F t j).inv * F t k) else F r k
theorem clrI_all (F : Nat → Nat → El q) (t j : Nat) {i r : Nat} (hr : r < i) (k : Nat) : clrI F t j i r k = clr F t j r k := by
  unfold clrI clr
  rw [if_pos hr]
theorem clrI_row (F : Nat → Nat → El q) {t j i : Nat} (h : i ≠ t) (k : Nat) : clrI F t j i i k = F i k := by
  unfold clrI
  rw [if_neg h, if_neg (Nat.lt_irrefl i)]
theorem clrI_start {X1 : Nat → Nat → El q} {t P c : Nat} (r j : Nat) : (if r = t then (X1 P c).inv * X1 P j else if r = P then X1 t j else X1 r j) = clrI (fun r => X1 (sw t P r)) t c 0 r j := by
  unfold clrI
  have h1 : sw t P t = P := by unfold sw; rw [if_pos rfl]
  by_cases e : r = t
  · rw [if_pos e, if_pos e]
    dsimp only
    rw [h1]
  · rw [if_neg e, if_neg e, if_neg (Nat.not_lt_zero r)]
    dsimp only
    unfold sw
    rw [if_neg e]
    by_cases e2 : r = P
    · rw [if_pos e2, if_pos e2]
    · rw [if_neg e2, if_neg e2]
theorem clrI_skip (F : Nat → Nat → El q) {t j i : Nat} (h : i = t ∨ F i j = 0) (r k : Nat) : clrI F t j i r k = clrI F t j (i + 1) r k := by
  unfold clrI
  by_cases e : r = t
  · rw [if_pos e, if_pos e]
  · rw [if_neg e, if_neg e]
    by_cases e2 : r < i
    · rw [if_pos e2, if_pos (by omega)]
    · rw [if_neg e2]
      by_cases e3 : r = i
      · subst e3
        rcases h with h | h
        · exact absurd h e
        · rw [if_pos (by omega), h, El.zero_mul, El.add_zero]
      · rw [if_neg (by omega)]
theorem clrI_step (F : Nat → Nat → El q) {t j i : Nat} (h : i ≠ t) (r k : Nat) : (if r = i then F i k + ((F t j).inv * F t k) * F i j else clrI F t j i r k) = clrI F t j (i + 1) r k := by
  unfold clrI
  by_cases e3 : r = i
  · subst e3
    rw [if_pos rfl, if_neg h, if_pos (by omega), El.mul_comm (F r j)]
  · rw [if_neg e3]
    by_cases e : r = t
    · rw [if_pos e, if_pos e]
    · rw [if_neg e, if_neg e]
      by_cases e2 : r < i
      · rw [if_pos e2, if_pos (by omega)]
      · rw [if_neg e2, if_neg (by omega)]
end

/-- what reduced tells -/
def RRedSaid (q : FP) (K : Prop) (b n m : Nat) (X : Nat → Nat → El q) (c : Nat) (w : World) (e : Ending) (w' : World) : Prop :=
  ∃ A cp, e = .returned (.tuple #[.slice A n cp, .int .i64 ((red n X c).2 : Nat)]) ∧ n ≤ cp ∧ (∃ As Cs, Rd b w' (slis As (fun _ => m) Cs) A n ∧ ∀ r, r < n → Rd b w' (i64s (ivs (red n X c).1 r)) (As r) m ∧ (K → m ≤ Cs r)) ∧ Below w.heap.size w w'
/-- in its loops -/
def RRedAt (q : FP) (K : Prop) (b n m g cap : Nat) (X : Nat → Nat → El q) (cols : Nat) (w : World) (s11 s12 : Value) (wr : World) : Prop :=
  ∃ c : Nat, c ≤ cols ∧ s12 = .int .i64 c ∧ s11 = .int .i64 ((red n X c).2 : Nat) ∧ ROut K b n m g cap (red n X c).1 w wr
def RRedIn (q : FP) (K : Prop) (b n m g cap : Nat) (F : Nat → Nat → El q) (t j : Nat) (R : Option Addr) (w : World) (s17 : Value) (wr : World) : Prop :=
  ∃ i : Nat, i ≤ n ∧ s17 = .int .i64 i ∧ ROut K b n m g cap (clrI F t j i) w wr ∧ ∀ h, (h = b ∨ h = g) → Rd h wr (i64s (fun k => (((F t j).inv * F t k).val : Int))) R m
end Go.Proofs.Ytgcochamjicjiaa

namespace Go.Proofs.Ytgcochamjicjiaa
open Go.RowKit

theorem run_fromIs (a : Option Addr) (len cap k : Nat) (hk : k ≤ len) (w : World) : (Instr.slice TIs (.slice a len cap) (some (.int .i64 k)) none none).run Try.prog w = .ok (.slice (if cap = k then a else a.map (·.add k)) (len - k) (cap - k)) w := by
  have hu : Try.prog.underlying TIs = some (.slice (Try.prog.elem TIs)) := by rw [elemI]; exact Try.underlying22
  rw [run_slice_l w TIs a len cap hu .i64 k (by omega) (by omega), elemI, sizeI]
  simp [Result.andThen, sliced]
theorem run_atIs (a : Option Addr) (len cap k : Nat) (hk : k ≤ len) (w : World) : (Instr.sliceAt TIs (.slice a len cap) (some (.int .i64 k)) none none).run Try.prog w = .ok (.slice (if cap = k then a else a.map (·.add k)) (len - k) (cap - k)) w := by
  have hu : Try.prog.underlying TIs = some (.slice (Try.prog.elem TIs)) := by rw [elemI]; exact Try.underlying22
  rw [run_sliceAt_slice w TIs _ _ _ _ hu, run_fromIs a len cap k hk]

/-- rows that are appended, one by one, none of them longer than its room -/
def MApC (b : Nat) (w : World) (F : Nat → Nat → Int) (m : Nat) (k : Nat) (v : Value) (wr : World) : Prop :=
  Below w.heap.size w wr ∧ ∃ (As : Nat → Option Addr) (Cs : Nat → Nat), wr.ownsRow w.heap.size TIs 1 v k ((List.range k).map (slis As (fun _ => m) Cs)) ∧ ∀ r, r < k → m ≤ Cs r ∧ ∀ g, (g = b ∨ v.ownBlock = some g) → Rd g wr (i64s (F r)) (As r) m
theorem MApC.start (b : Nat) (w : World) (F : Nat → Nat → Int) (m : Nat) : MApC b w F m 0 nilS w := ⟨Below.refl _ _, fun _ => none, fun _ => 0, World.ownsRow_nil _ _ _ _, fun r hr => absurd hr (by omega)⟩
theorem MApC.below {b : Nat} {w : World} {F : Nat → Nat → Int} {m : Nat} {k : Nat} {v : Value} {wr w' : World} (h : MApC b w F m k v wr) (hb : Below wr.heap.size wr w') : MApC b w F m k v w' := by
  obtain ⟨h1, As, Cs, h2, h3⟩ := h
  exact ⟨below_tr h1 hb, As, Cs, own_below h2 hb, fun r hr => ⟨(h3 r hr).1, fun g hg => ((h3 r hr).2 g hg).below hb⟩⟩
theorem MApC.step {b : Nat} {w : World} {F : Nat → Nat → Int} {m : Nat} {k : Nat} {v : Value} {wr w1 : World} {o : Obj} {As : Nat → Option Addr} {Cs : Nat → Nat} {A' : Option Addr} {c' g' cap : Nat} (h1 : Below w.heap.size w wr) (h2 : wr.ownsRow w.heap.size TIs 1 v k ((List.range k).map (slis As (fun _ => m) Cs)))
    (h3 : ∀ r, r < k → m ≤ Cs r ∧ ∀ g, (g = b ∨ v.ownBlock = some g) → Rd g wr (i64s (F r)) (As r) m) (hr : ∀ g, (g = b ∨ v.ownBlock = some g) → Rd g wr (i64s (F k)) A' m) (hc : m ≤ c')
    (hown : w1.ownsRow w.heap.size TIs 1 (.slice (some ⟨g', 0, none⟩) (k + 1) cap) (k + 1) ((List.range k).map (slis As (fun _ => m) Cs) ++ [.slice A' m c'])) (hgr : (wr.alloc o).grownBy w1 v.ownBlock) (hg : v.ownBlock = some g' ∨ g' = wr.heap.size + 1) :
    MApC b w F m (k + 1) (.slice (some ⟨g', 0, none⟩) (k + 1) cap) w1 := by
  have hg : v.ownBlock = some g' ∨ g' = (wr.alloc o).heap.size := by rw [World.size_alloc]; exact hg
  refine ⟨(h1.alloc h1.size o).grown hgr (by simp; have := h1.size; omega) (fun q hq => (h2.lt q hq).1), fun r => if r = k then A' else As r, fun r => if r = k then c' else Cs r, ?_, fun r hr' => ?_⟩
  · rw [range_snoc]
    have e1 : (List.range k).map (slis (fun r => if r = k then A' else As r) (fun _ => m) (fun r => if r = k then c' else Cs r)) = (List.range k).map (slis As (fun _ => m) Cs) := range_congr (fun j hj => by
      simp only [slis]
      rw [if_neg (by omega), if_neg (by omega)])
    rw [e1]
    simp only [slis, if_pos]
    exact hown
  · by_cases e : r = k
    · subst e
      dsimp only
      rw [if_pos rfl, if_pos rfl]
      exact ⟨hc, fun g hgg => rd_grown hr hgr hg g hgg⟩
    · dsimp only
      rw [if_neg e, if_neg e]
      exact ⟨(h3 r (by omega)).1, fun g hgg => rd_grown (h3 r (by omega)).2 hgr hg g hgg⟩
theorem MApC.rows {b : Nat} {w : World} {F : Nat → Nat → Int} {m : Nat} {k : Nat} {v : Value} {wr : World} (h : MApC b w F m k v wr) (hb : b < w.heap.size) : ∃ A c As Cs, v = .slice A k c ∧ k ≤ c ∧ Rd b wr (slis As (fun _ => m) Cs) A k ∧ ∀ r, r < k → m ≤ Cs r ∧ Rd b wr (i64s (F r)) (As r) m := by
  obtain ⟨h1, As, Cs, h2, h3⟩ := h
  obtain ⟨A, c, e, hc, hrd⟩ := Rd.of_own h2 hb
  exact ⟨A, c, As, Cs, e, hc, hrd, fun r hr => ⟨(h3 r hr).1, (h3 r hr).2 b (Or.inl rfl)⟩⟩

/-- what Rank of the document tells -/
def RRankAny (q : FP) (n : Nat) (La : Nat → Nat) (F : Nat → Nat → Int) (w : World) (e : Ending) (w' : World) : Prop :=
  ∃ s, e = .returned (.tuple #[.int .i64 (cond s (rk n (elM q F) (La 0)) 0 : Nat), .int .i64 (errOf s)]) ∧ (s = true ↔ mayP (M.ord q.p) n La F) ∧ Below w.heap.size w w'

/-- what Inverse of the document tells -/
def RInvAny (q : FP) (b n : Nat) (La : Nat → Nat) (F : Nat → Nat → Int) (w : World) (e : Ending) (w' : World) : Prop :=
  ∃ s t v, e = .returned (.tuple #[v, .int .i64 (err2 s t)]) ∧ (s = true ↔ sqP (M.ord q.p) n La F) ∧ (s = true → (t = true ↔ rk n (elM q F) n = n)) ∧ MTold b (cond (s && t) n 0) (ivs (ivm n (elM q F))) (fun _ => n) w v w'
theorem RInvAny.no {q : FP} {b n : Nat} {La : Nat → Nat} {F : Nat → Nat → Int} {w w' : World} (h : ¬ sqP (M.ord q.p) n La F) (hb : Below w.heap.size w w') : RInvAny q b n La F w (.returned (.tuple #[nilS, .int .i64 1])) w' :=
  ⟨false, false, _, rfl, by simp [h], (fun h => by cases h), MTold.nil hb⟩
theorem aug_list {q : FP} (n : Nat) (X Y : Nat → Nat → El q) (i m : Nat) : (List.range n).map (i64s (ivs X i)) ++ (List.range m).map (i64s (ivs Y i)) = (List.range (n + m)).map (i64s (ivs (aug n X Y) i)) := by
  rw [← joinV_all n m]
  refine range_congr (fun j _ => ?_)
  unfold joinV
  by_cases e : j < n
  · rw [if_pos e]
    simp only [i64s, ivs, aug, if_pos e]
  · rw [if_neg e]
    simp only [i64s, ivs, aug, if_neg e]

/-- what Solve of the document tells -/
def RSolAny (q : FP) (b n : Nat) (La : Nat → Nat) (F : Nat → Nat → Int) (m : Nat) (l : Nat → Int) (w : World) (e : Ending) (w' : World) : Prop :=
  ∃ s t v, e = .returned (.tuple #[v, .int .i64 (err2 s t)]) ∧ (s = true ↔ solP (M.ord q.p) n La F m l) ∧ (s = true → (t = true ↔ rk n (elM q F) n = n)) ∧ IntsTold b (cond (s && t) n 0) (fun r => ((mm n (ivm n (elM q F)) (colM q l) r 0).val : Int)) w v w'
theorem RSolAny.no {q : FP} {b n : Nat} {La : Nat → Nat} {F : Nat → Nat → Int} {m : Nat} {l : Nat → Int} {w w' : World} (h : ¬ solP (M.ord q.p) n La F m l) (hb : Below w.heap.size w w') : RSolAny q b n La F m l w (.returned (.tuple #[nilS, .int .i64 1])) w' :=
  ⟨false, false, _, rfl, by simp [h], (fun h => by cases h), none, 0, rfl, Nat.le_refl _, Rd.zero, hb⟩
end Go.Proofs.Ytgcochamjicjiaa
