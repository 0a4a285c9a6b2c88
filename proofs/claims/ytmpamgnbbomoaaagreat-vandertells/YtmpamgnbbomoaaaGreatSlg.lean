/- Slices that are read or appended to, numbers that are told, errors: what layers 3 and on share. The contract of gambrelref03's Ints. -/
import Derived.Test.YtmpamgnbbomoaaaGreatRdm
import Derived.Test.YtmpamgnbbomoaaaGreatGxd
import Derived.RegionTactic
import Derived.OpenShut
import Derived.Deep.QuietTactic
import Derived.BigQuiet
import Derived.Laws.AppendOwnNone
namespace Go.Proofs.YtmpamgnbbomoaaaGreat
open Go.RowKit

abbrev TI : Nat := 3
abbrev TIs : Nat := 37
theorem infoI : (Tryz.prog.info? TI).map (fun i => (i.zero, i.size, i.bytes)) = some (some (.int .i64 0), 1, 8) := by kernel_rfl

/-- are all m numbers of the field? -/
def allIn (c : Nat) (l : Nat → Int) (m : Nat) : Prop := ∀ j, j < m → 0 ≤ l j ∧ l j ≤ c

abbrev slis (As : Nat → Option Addr) (Ls Cs : Nat → Nat) : Nat → Value := fun j => .slice (As j) (Ls j) (Cs j)

theorem below_alloc (w : World) (o : Obj) : Below w.heap.size w (w.alloc o) := (Below.refl _ _).alloc (Nat.le_refl _) _
theorem below_tr {w w1 w2 : World} (h1 : Below w.heap.size w w1) (h2 : Below w1.heap.size w1 w2) : Below w.heap.size w w2 := h1.trans (h2.mono h1.size)

theorem below_drewN' (w : World) (k : Nat) : Below w.heap.size w (w.drewN k) := ⟨rfl, rfl, rfl, Nat.le_refl _, fun _ _ => rfl⟩
theorem quiet_same {P : Program} {f : FuncId} {args : Array Value} {w : World} {n : Nat} {v : Value} (h : Calls P f args (w.drewN n) fun e w' => e = .returned v ∧ w.drewN n = w') : Calls P f args (w.drewN n) fun e w'' => e = .returned v ∧ ∃ m, w'' = w.drewN m :=
  h.mono fun _ _ ⟨he, hm⟩ => ⟨he, n, hm.symm⟩

/-- a list that is appended to, behind k elements -/
def App (w : World) (e : Nat) (K : Nat → Value) (k : Nat) (v : Value) (wr : World) : Prop := wr.ownsRow w.heap.size e 1 v k ((List.range k).map K) ∧ Below w.heap.size w wr
theorem App.start (w : World) (e : Nat) (K : Nat → Value) : App w e K 0 nilS w := ⟨(World.ownsRow_nil w w.heap.size e 1 :), Below.refl _ _⟩
theorem App.step {w wr w1 : World} {e k : Nat} {K : Nat → Value} {v v' : Value} {o : Obj} (h : App w e K k v wr) (ho : w1.ownsRow w.heap.size e 1 v' (k + 1) ((List.range k).map K ++ [K k])) (hg : (wr.alloc o).grownBy w1 v.ownBlock) : App w e K (k + 1) v' w1 :=
  ⟨by rw [range_snoc]; exact ho, (h.2.alloc h.2.size o).grown hg (by simp; have := h.2.size; omega) (fun q hq => (h.1.lt q hq).1)⟩
theorem App.rd {b : Nat} {w wr : World} {e k : Nat} {K : Nat → Value} {v : Value} (h : App w e K k v wr) (hb : b < w.heap.size) : ∃ A c, v = .slice A k c ∧ k ≤ c ∧ Rd b wr K A k := Rd.of_own h.1 hb
theorem App.drew {w wr : World} {e k : Nat} {K : Nat → Value} {v : Value} (h : App w e K k v wr) : App w e K k v wr.drew := ⟨h.1, h.2.drew⟩
theorem App.congr {w wr : World} {e k : Nat} {K K' : Nat → Value} {v : Value} (h : App w e K k v wr) (hk : ∀ j, j < k → K j = K' j) : App w e K' k v wr := ⟨by rw [← range_congr hk]; exact h.1, h.2⟩

/-- numbers that are told -/
def IntsTold (b n : Nat) (l : Nat → Int) (w : World) (v : Value) (w' : World) : Prop := ∃ A c, v = .slice A n c ∧ n ≤ c ∧ Rd b w' (i64s l) A n ∧ Below w.heap.size w w'
theorem IntsTold.of {b n : Nat} {l : Nat → Int} {w w' : World} {v : Value} (h : App w TI (i64s l) n v w') (hb : b < w.heap.size) : IntsTold b n l w v w' := by
  obtain ⟨A, c, h1, h2, h3⟩ := h.rd hb
  exact ⟨A, c, h1, h2, h3, h.2⟩

theorem lt_of_cell {w : World} {a : Addr} {v : Value} (h : w.cell? a = some v) : a.block < w.heap.size := World.block_lt_of_cell? w a h

/-- a slice of integers that came in -/
theorem rd_in {k : IntKind} {w : World} {a : Option Addr} {len cap : Nat} {zs : List Int}
    (h : (a = none ∧ len = 0 ∧ cap = 0 ∧ zs = []) ∨ ∃ x, a = some x ∧ len ≤ cap ∧ cap ≤ maxLen ∧ zs.length = cap ∧ (∀ i, i < zs.length → w.cell? (x.add i) = some (.int k (zs.getD i 0))) ∧ ∀ n ∈ zs, (Lit.int k n).wf = true) :
    len ≤ cap ∧ ∀ b, w.heap.size ≤ b → Rd b w (fun j => .int k (zs.getD j 0)) a len := by
  rcases h with ⟨rfl, rfl, rfl, rfl⟩ | ⟨x, rfl, h1, _, h2, h3, _⟩
  · exact ⟨Nat.le_refl _, fun _ _ => Rd.zero⟩
  · refine ⟨h1, fun b hb hn => ⟨x, rfl, ?_, ?_, fun j hj => h3 j (by omega)⟩⟩
    · have := lt_of_cell (h3 0 (by omega))
      rw [block_of_add] at this
      omega
    · have := lt_of_cell (h3 0 (by omega))
      rwa [block_of_add] at this

/-- the error's number -/
def errOf (t : Bool) : Int := if t then 0 else 1

theorem cells_rd {b : Nat} {w : World} {k : Nat → Value} {ad : Addr} {n : Nat} (h : Rd b w k (some ad) n) : ∀ j u, ((List.range n).map k)[j]? = some u → w.cell? (ad.add j) = some u := fun j u hj => by
  have hjn : j < n := by
    rcases Nat.lt_or_ge j n with h' | h'
    · exact h'
    · rw [List.getElem?_eq_none (by simpa using h')] at hj; cases hj
  rw [List.getElem?_map, List.getElem?_range hjn] at hj
  obtain ⟨ad', e, hc⟩ := h.at_ hjn
  injection e with e
  subst e
  rw [hc]
  exact hj

theorem append_rd {P : Program} (w : World) {ops : Array Oper} {rest : List Oper} {o : Oper} {a : Act} {Q : Exit → Act → World → Prop} (hgd : o.guard = none) (s x : Operand) (t : TypeId)
    (ho : o.op = .call { callee := .builtin .append, args := #[s, x], argTypes := #[t, t] }) (base : Nat) (e : TypeId) (i : TypeInfo) (z : Value) (bytes : Nat) (ht : P.underlying t = some (.slice e)) (hi : P.info? e = some i) (hz : i.zero = some z)
    (hsize : i.size = 1) (hby : i.bytes = bytes) (hzs : z.cells.size = 1) (v : Value) (n : Nat) (xs : List Value) (hs : a.eval s = v) (hown : w.ownsRow base e 1 v n xs)
    (b : Nat) (k : Nat → Value) (A : Option Addr) (m c : Nat) (hx : a.eval x = .slice A m c) (hc : A = none → c = 0) (hr : Rd b w k A m) (h1 : ∀ j, (k j).oneCell' = true)
    (h63 : n + m ≤ maxLen) (hbytes : (n + m) * bytes ≤ 140737488355328) (hbase : base ≤ w.heap.size)
    (h : ∀ v' w', w'.ownsRow base e 1 v' (n + m) (xs ++ (List.range m).map k) → w.grownBy w' v.ownBlock → wpList P ops Q rest (a.put o.dst v') w') : wpList P ops Q (o :: rest) a w := by
  rcases A with _ | ad
  · have hm : m = 0 := by
      rcases Nat.eq_zero_or_pos m with h0 | h0
      · exact h0
      · obtain ⟨_, e, _⟩ := hr h0
        cases e
    subst hm
    obtain rfl := hc rfl
    exact wpList_append_own_none hgd s x t ho base e i 1 ht hi v n xs hs hown hx (h v w (by simpa using hown) (World.grownBy.refl w _))
  · exact wpList_append_own w hgd s x t ho base e i z 1 bytes ht hi hz hsize hby hzs (by decide) v n xs hs hown ad m c _ hx (by simp) (cells_rd hr) (fun u hu => by obtain ⟨j, _, rfl⟩ := List.mem_map.1 hu; exact h1 j) h63 hbytes hbase (fun v' w' h2 h3 _ => h v' w' h2 h3)
end Go.Proofs.YtmpamgnbbomoaaaGreat
