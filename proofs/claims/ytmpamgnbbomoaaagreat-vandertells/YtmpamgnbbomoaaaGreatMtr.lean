/- An append in a region that draws its order: what is appended may be nothing at all. -/
import Derived.Test.YtmpamgnbbomoaaaGreatMtq
import Derived.Test.YtmpamgnbbomoaaaGreatMth
import Derived.Laws.AppendOwnNone
import Derived.Deep.AppendLies
namespace Go.Proofs.YtmpamgnbbomoaaaGreat
open Go.RowKit

theorem step_append_rd {P : Program} (w : World) {ops : Array Oper} {o : Oper} {a : Act} {K : Act → World → Prop} {Q : Exit → Act → World → Prop} {E : Prop} (hgd : o.guard = none) (s x : Operand) (t : TypeId)
    (ho : o.op = .call { callee := .builtin .append, args := #[s, x], argTypes := #[t, t] }) (base : Nat) (e : TypeId) (i : TypeInfo) (z : Value) (bytes : Nat) (ht : P.underlying t = some (.slice e)) (hi : P.info? e = some i) (hz : i.zero = some z)
    (hsize : i.size = 1) (hby : i.bytes = bytes) (hzs : z.cells.size = 1) (v : Value) (n : Nat) (xs : List Value) (hs : a.eval s = v) (hown : w.ownsRow base e 1 v n xs)
    (b : Nat) (k : Nat → Value) (A : Option Addr) (m c : Nat) (hx : a.eval x = .slice A m c) (hc : A = none → c = 0) (hr : Rd b w k A m) (h1 : ∀ j, (k j).oneCell' = true)
    (h63 : n + m ≤ maxLen) (hbytes : (n + m) * bytes ≤ 140737488355328) (hbase : base ≤ w.heap.size) (H : Nat) (hH : w.heap.size = H)
    (h : ∀ v' w', w'.ownsRow base e 1 v' (n + m) (xs ++ (List.range m).map k) → w.grownBy w' v.ownBlock → (v'.ownBlock = v.ownBlock ∨ v'.ownBlock = some H) → K (a.put o.dst v') w') :
    if Region.wanted o (yielded ops a.tmps) = true then Oper.wp P o a w K Q else E := by
  have hw : Region.wanted o (yielded ops a.tmps) = true := by simp [Region.wanted, hgd]
  rw [if_pos hw]
  rcases A with _ | ad
  · have hm : m = 0 := by
      rcases Nat.eq_zero_or_pos m with h0 | h0
      · exact h0
      · obtain ⟨_, e, _⟩ := hr h0
        cases e
    subst hm
    obtain rfl := hc rfl
    have hrun := run_append_owned_none (P := P) (w := w) base t o.type e i 1 ht hi v n xs hown
    unfold Oper.wp
    simp [execOp, ho, resolve, invoke, builtin, hs, hx, hrun, Result.andThen]
    exact h v w (by simpa using hown) (World.grownBy.refl w _) (Or.inl rfl)
  · obtain ⟨v', w', hrun, h2, h3, _, h5⟩ := run_append_own_at (P := P) w base t o.type e i z 1 bytes ht hi hz hsize hby hzs (by decide) v n xs hown ad m c ((List.range m).map k) (by simp) (cells_rd hr) (fun u hu => by obtain ⟨j, _, rfl⟩ := List.mem_map.1 hu; exact h1 j) h63 hbytes hbase
    unfold Oper.wp execOp
    simp only [ho, resolve, invoke, builtin, Sem.run_bind, Sem.run_pure, Result.andThen_ok, List.map_toArray, List.map_cons, List.map_nil, hs, hx, hrun]
    exact h v' w' h2 h3 (by rw [← hH]; exact h5)

/-- what is laid is the call's own -/
theorem own_fresh (w : World) (base e : Nat) (cs : Array Value) (n H : Nat) (hH : w.heap.size = H) (hb : base ≤ H) (hm : n ≤ maxLen) (hs : cs.size = n) : (w.alloc (.cells cs e)).ownsRow base e 1 (.slice (some ⟨H, 0, none⟩) n n) n cs.toList := by
  subst hH
  exact World.ownsRow_lit w cs n hb hm (by omega)
theorem own_fresh0 (w : World) (base e H : Nat) (hH : w.heap.size = H) (hb : base ≤ H) : (w.alloc (.cells #[] e)).ownsRow base e 1 (.slice (some ⟨H, 0, none⟩) 0 0) 0 [] := own_fresh w base e #[] 0 H hH hb (by unfold maxLen; omega) rfl
theorem own_fresh1 (w : World) (base e H : Nat) (u : Value) (hH : w.heap.size = H) (hb : base ≤ H) : (w.alloc (.cells #[u] e)).ownsRow base e 1 (.slice (some ⟨H, 0, none⟩) 1 1) 1 [u] := own_fresh w base e #[u] 1 H hH hb (by unfold maxLen; omega) rfl
theorem own_freshM (w : World) (base e n H : Nat) (u : Value) (hH : w.heap.size = H) (hb : base ≤ H) (hn : n ≤ 1000) : (w.alloc (.cells (madeCells #[u] n) e)).ownsRow base e 1 (.slice (some ⟨H, 0, none⟩) n n) n (madeCells #[u] n).toList := own_fresh w base e _ n H hH hb (by unfold maxLen; omega) (size_madeCells _ _)
/-- .. what was appended to, given back too -/
theorem step_append_rd' {P : Program} (w : World) {ops : Array Oper} {o : Oper} {a : Act} {K : Act → World → Prop} {Q : Exit → Act → World → Prop} {E : Prop} (hgd : o.guard = none) (s x : Operand) (t : TypeId)
    (ho : o.op = .call { callee := .builtin .append, args := #[s, x], argTypes := #[t, t] }) (base : Nat) (e : TypeId) (i : TypeInfo) (z : Value) (bytes : Nat) (ht : P.underlying t = some (.slice e)) (hi : P.info? e = some i) (hz : i.zero = some z)
    (hsize : i.size = 1) (hby : i.bytes = bytes) (hzs : z.cells.size = 1) (v : Value) (n : Nat) (xs : List Value) (hs : a.eval s = v) (hown : w.ownsRow base e 1 v n xs)
    (b : Nat) (k : Nat → Value) (A : Option Addr) (m c : Nat) (hx : a.eval x = .slice A m c) (hc : A = none → c = 0) (hr : Rd b w k A m) (h1 : ∀ j, (k j).oneCell' = true)
    (h63 : n + m ≤ maxLen) (hbytes : (n + m) * bytes ≤ 140737488355328) (hbase : base ≤ w.heap.size)
    (h : ∀ v' w', w.ownsRow base e 1 v n xs → w'.ownsRow base e 1 v' (n + m) (xs ++ (List.range m).map k) → w.grownBy w' v.ownBlock → K (a.put o.dst v') w') :
    if Region.wanted o (yielded ops a.tmps) = true then Oper.wp P o a w K Q else E :=
  step_append_rd w hgd s x t ho base e i z bytes ht hi hz hsize hby hzs v n xs hs hown b k A m c hx hc hr h1 h63 hbytes hbase _ rfl fun v' w' h2 h3 _ => h v' w' hown h2 h3

/-- rows of unlike kinds lie apart -/
theorem keep_kind {W w' : World} {base e e' n n' : Nat} {v v' : Value} {xs xs' : List Value} (hold : W.ownsRow base e 1 v n xs) (hgr : W.grownBy w' v.ownBlock) (hne : e' ≠ e) (h : W.ownsRow base e' 1 v' n' xs') : w'.ownsRow base e' 1 v' n' xs' := by
  refine h.kept hgr ?_
  rcases h.2 with ⟨rfl, _⟩ | ⟨g, cap, cur, rfl, _, hg, _⟩
  · exact Or.inl rfl
  · refine Or.inr ?_
    rcases hold.2 with ⟨rfl, _⟩ | ⟨g', cap', cur', rfl, _, hg', _⟩
    · simp [Value.ownBlock]
    · simp only [Value.ownBlock]
      intro he
      injection he with he
      subst he
      rw [hg] at hg'
      injection hg' with hg'
      injection hg' with _ h2
      exact hne h2
theorem below_grown {w0 W w' : World} {e n : Nat} {v : Value} {xs : List Value} (h : Below w0.heap.size w0 W) (ho : W.ownsRow w0.heap.size e 1 v n xs) (hg : W.grownBy w' v.ownBlock) : Below w0.heap.size w0 w' := h.grown hg h.size (fun q hq => (ho.lt q hq).1)
/-- the row at g, of eleven numbers -/
def row11 (g : Nat) : Nat → Value := fun _ => .slice (some ⟨g, 0, none⟩) 11 11
theorem row11_one (g j : Nat) : (row11 g j).oneCell' = true := rfl
theorem rd_row {W : World} {base e b g gm : Nat} (h : W.ownsRow base e 1 (.slice (some ⟨g, 0, none⟩) 1 1) 1 [.slice (some ⟨gm, 0, none⟩) 11 11]) (hb : b < base) : Rd b W (row11 gm) (some ⟨g, 0, none⟩) 1 := by
  obtain ⟨A, c, e1, _, h3⟩ := Rd.of_own (k := row11 gm) (b := b) h hb
  injection e1 with e1
  rw [e1]
  exact h3
theorem rd_one {W : World} {base e b g : Nat} {u : Value} (h : W.ownsRow base e 1 (.slice (some ⟨g, 0, none⟩) 1 1) 1 [u]) (hb : b < base) : Rd b W (fun _ => u) (some ⟨g, 0, none⟩) 1 := by
  obtain ⟨A, c, e1, _, h3⟩ := Rd.of_own (k := fun _ => u) (b := b) h hb
  injection e1 with e1
  rw [e1]
  exact h3
theorem made11 : (madeCells #[Value.int .i64 0] 11).toList = (List.range 11).map (i64s (fun _ => 0)) := by
  apply List.ext_getElem
  · simp [size_madeCells]
  · intro i h1 h2
    simp [madeCells, i64s, Nat.mod_one]

/-- the rows of a, and one more: eleven noughts -/
def oddF (n : Nat) (F : Nat → Nat → Int) : Nat → Nat → Int := joinF n F (fun _ _ => 0)
def oddL (n : Nat) (La : Nat → Nat) : Nat → Nat := joinL n La (fun _ => 11)
def Odd (b n : Nat) (As : Nat → Option Addr) (La Cs : Nat → Nat) (v : Value) (w : World) : Prop :=
  ∃ A c gm, v = .slice A (n + 1) c ∧ Rd b w (joinV n (slis As La Cs) (row11 gm)) A (n + 1) ∧ Rd b w (i64s (fun _ => 0)) (some ⟨gm, 0, none⟩) 11
theorem odd_fin {W w5 : World} {base b n gm : Nat} {As : Nat → Option Addr} {La Cs : Nat → Nat} {v3 v5 : Value} {xs : List Value} (hb : b < base) (hold : W.ownsRow base TIs 1 v3 (0 + n) xs) (hgr : W.grownBy w5 v3.ownBlock)
    (hown : w5.ownsRow base TIs 1 v5 (0 + n + 1) ([] ++ (List.range n).map (slis As La Cs) ++ (List.range 1).map (row11 gm)))
    (hz : W.ownsRow base TI 1 (.slice (some ⟨gm, 0, none⟩) 11 11) 11 (madeCells #[.int .i64 0] 11).toList) : Odd b n As La Cs v5 w5 := by
  have h1 := keep_kind hold hgr (by decide) hz
  rw [made11] at h1
  rw [Nat.zero_add, List.nil_append, ← joinV_all] at hown
  obtain ⟨A, c, rfl, _, h2⟩ := Rd.of_own hown hb
  obtain ⟨A', c', e, _, h3⟩ := Rd.of_own h1 hb
  injection e with e
  subst e
  exact ⟨A, c, gm, rfl, h2, h3⟩
theorem odd_mx {w5 : World} {b n : Nat} {F : Nat → Nat → Int} {As : Nat → Option Addr} {La Cs : Nat → Nat} {v : Value} (h : Odd b n As La Cs v w5) (hr : ∀ r, r < n → Rd b w5 (i64s (F r)) (As r) (La r)) :
    ∃ A c, v = .slice A (n + 1) c ∧ Mx b w5 (oddF n F) (oddL n La) A (n + 1) := by
  obtain ⟨A, c, gm, rfl, h1, h2⟩ := h
  refine ⟨A, c, rfl, fun r => if r < n then As r else some ⟨gm, 0, none⟩, fun r => if r < n then Cs r else 11, h1.congr (fun j _ => ?_), fun r _ => ?_⟩
  · simp only [joinV, slis, oddL, joinL, row11]
    split <;> rfl
  · simp only [oddF, joinF, oddL, joinL]
    by_cases hlt : r < n
    · rw [if_pos hlt, if_pos hlt, if_pos hlt]; exact hr r hlt
    · rw [if_neg hlt, if_neg hlt, if_neg hlt]; exact h2
theorem odd_no {c n : Nat} {F : Nat → Nat → Int} {La : Nat → Nat} (h0 : n ≠ 0) (h : ∀ r, r < n → La r ≤ 10) : ¬ mayP c (n + 1) (oddL n La) (oddF n F) := by
  rintro ⟨_, _, h3⟩
  have h4 := (h3 n (by omega)).1
  unfold oddL joinL at h4
  rw [if_neg (by omega), if_pos (by omega)] at h4
  have h5 := h 0 (by omega)
  dsimp only at h4
  omega
/-- the row of one nought that was laid just now -/
theorem rd_nought {w : World} {b : Nat} (hb : b < w.heap.size) : Rd b (w.alloc (.cells #[.int .i64 0] TI)) (i64s (fun _ => 0)) (some ⟨w.heap.size, 0, none⟩) 1 := rd_one (own_fresh1 w w.heap.size TI _ _ rfl (Nat.le_refl _)) hb
end Go.Proofs.YtmpamgnbbomoaaaGreat
