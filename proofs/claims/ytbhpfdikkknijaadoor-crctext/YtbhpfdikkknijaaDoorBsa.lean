/- Memory that is read and written, beside nothing but itself: what turns one block alone, slices that are read or appended to, bytes, rows of bytes, structs in boxes. -/
import Derived.Test.YtbhpfdikkknijaaDoorRows
import Derived.Lib.Hide
import Derived.Lib.SliceRun
import Derived.WalkKit
import Derived.RegionTactic
import Derived.Deep.OwnRows
import Derived.Deep.AppendLies
import Derived.Deep.Draws
import Derived.Deep.QuietTactic
import Derived.BigQuiet
import Derived.OwnWalk
import Derived.OpenShut
import Derived.ChangeSlices
import Derived.Laws.OwnMore
import Derived.Laws.AppendOwnNone
import Derived.Laws.BytesArg
import Derived.Laws.Rows
import Derived.RangeFuncRecord
namespace Go.Proofs.YtbhpfdikkknijaaDoor
open Go.RowKit Go.ChangeShapes

/-- w' is as w was, but for block b; memory only grew -/
structure Turned (b : Nat) (w w' : World) : Prop where
  os : w'.os = w.os
  tape : w'.tape = w.tape
  output : w'.output = w.output
  size : w.heap.size ≤ w'.heap.size
  block : ∀ k, k < w.heap.size → k ≠ b → w'.heap[k]? = w.heap[k]?
theorem Turned.refl (b : Nat) (w : World) : Turned b w w := ⟨rfl, rfl, rfl, Nat.le_refl _, fun _ _ _ => rfl⟩
theorem Turned.trans {b : Nat} {x y z : World} (h : Turned b x y) (k : Turned b y z) : Turned b x z :=
  ⟨k.os.trans h.os, k.tape.trans h.tape, k.output.trans h.output, Nat.le_trans h.size k.size, fun i hi hb => (k.block i (Nat.lt_of_lt_of_le hi h.size) hb).trans (h.block i hi hb)⟩
theorem Turned.below {b n : Nat} {w w' : World} (h : Turned b w w') (hb : n ≤ b) (hn : n ≤ w.heap.size) : Below n w w' :=
  ⟨h.os, h.tape, h.output, h.size, fun k hk => h.block k (by omega) (by omega)⟩
theorem Turned.of_below {b : Nat} {w w' : World} (h : Below w.heap.size w w') : Turned b w w' := ⟨h.os, h.tape, h.output, h.size, fun k hk _ => h.block k hk⟩
theorem Turned.setCell {b : Nat} {w w' : World} (h : Turned b w w') (o : Nat) (v : Value) : Turned b w (w'.setCell ⟨b, o, none⟩ v) :=
  h.trans ⟨rfl, rfl, rfl, by simp [World.setCell], fun k _ hb => Below.heap_setCell _ _ _ _ hb⟩
theorem Turned.drew {b : Nat} {w w' : World} (h : Turned b w w') : Turned b w w'.drew := ⟨h.os, h.tape, h.output, h.size, h.block⟩
theorem Turned.cell {b : Nat} {w w' : World} (h : Turned b w w') {q : Addr} (hq : q.block < w.heap.size) (hb : q.block ≠ b) : w'.cell? q = w.cell? q := World.cell?_of_block (w := w) (h.block q.block hq hb)
theorem Turned.row {b : Nat} {w w' : World} (h : Turned b w w') {k t n : Nat} {f : Nat → Value} (hr : w.rowIs k t n f) (hb : k ≠ b) : w'.rowIs k t n f := hr.of_block (h.block k hr.lt hb)

abbrev nilS : Value := .slice none 0 0
abbrev sl (g n : Nat) : Value := .slice (some ⟨g, 0, none⟩) n n

theorem block_of_add (a : Addr) (n : Nat) : (a.add n).block = a.block := by unfold Addr.add; split <;> rfl
theorem add_of_add (a : Addr) (i j : Nat) : (a.add i).add j = a.add (i + j) := by
  unfold Addr.add
  by_cases hi : i = 0 <;> by_cases hj : j = 0 <;> simp [hi, hj, Nat.add_assoc]

/-- the slice at A, of n elements, holds k 0, k 1, ..; it lies in another block than b -/
def Rd (b : Nat) (w : World) (k : Nat → Value) (A : Option Addr) (n : Nat) : Prop :=
  0 < n → ∃ ad, A = some ad ∧ ad.block ≠ b ∧ ad.block < w.heap.size ∧ ∀ j, j < n → w.cell? (ad.add j) = some (k j)

section
variable {b : Nat} {w w' : World} {k : Nat → Value} {A : Option Addr} {n : Nat}
theorem Rd.zero : Rd b w k A 0 := fun h => absurd h (by omega)
theorem Rd.at_ {i : Nat} (h : Rd b w k A n) (hi : i < n) : ∃ ad, A = some ad ∧ w.cell? (ad.add i) = some (k i) := by
  obtain ⟨ad, e, _, _, hc⟩ := h (by omega)
  exact ⟨ad, e, hc i hi⟩
theorem Rd.turned (h : Rd b w k A n) (ht : Turned b w w') : Rd b w' k A n := fun hn => by
  obtain ⟨ad, e, h1, h2, hc⟩ := h hn
  exact ⟨ad, e, h1, Nat.lt_of_lt_of_le h2 ht.size, fun j hj => (ht.cell (by rw [block_of_add]; exact h2) (by rw [block_of_add]; exact h1)).trans (hc j hj)⟩
theorem Rd.below (h : Rd b w k A n) (hb : Below w.heap.size w w') : Rd b w' k A n := h.turned (Turned.of_below hb)
theorem Rd.drew (h : Rd b w k A n) : Rd b w.drew k A n := h
theorem Rd.congr {k' : Nat → Value} (h : Rd b w k A n) (he : ∀ j, j < n → k j = k' j) : Rd b w k' A n := fun hn => by
  obtain ⟨ad, e, h1, h2, hc⟩ := h hn
  exact ⟨ad, e, h1, h2, fun j hj => by rw [hc j hj, he j hj]⟩
theorem Rd.of_row {g t : Nat} {m : Nat} (h : w.rowIs g t m k) (hg : g ≠ b) (hm : n ≤ m) : Rd b w k (some ⟨g, 0, none⟩) n := fun _ => by
  refine ⟨_, rfl, hg, h.lt, fun j hj => ?_⟩
  rw [← h.cell (i := j) (by omega)]
  unfold Addr.add
  split
  · subst_vars; rfl
  · simp
theorem Rd.cut {i cap : Nat} (h : Rd b w k A n) (hi : i ≤ n) (hc : n ≤ cap) :
    Rd b w (fun j => k (i + j)) (if cap = i then A else A.map (·.add i)) (n - i) := fun hn => by
  obtain ⟨ad, rfl, h1, h2, hcell⟩ := h (by omega)
  rw [if_neg (by omega)]
  refine ⟨ad.add i, rfl, by rw [block_of_add]; exact h1, by rw [block_of_add]; exact h2, fun j hj => ?_⟩
  rw [add_of_add]
  exact hcell (i + j) (by omega)
theorem Rd.take {m : Nat} (h : Rd b w k A n) (hm : m ≤ n) : Rd b w k A m := fun hn => by
  obtain ⟨ad, e, h1, h2, hc⟩ := h (by omega)
  exact ⟨ad, e, h1, h2, fun j hj => hc j (by omega)⟩

/-- a row that the call owns, as it is read -/
theorem Rd.of_own {base e : Nat} {v : Value} (h : w.ownsRow base e 1 v n ((List.range n).map k)) (hb : b < base) : ∃ A c, v = .slice A n c ∧ n ≤ c ∧ Rd b w k A n := by
  rcases h.2 with ⟨rfl, rfl⟩ | ⟨g, cap, cur, rfl, hg, hh, hc, _, hs, ht⟩
  · exact ⟨none, 0, rfl, Nat.le_refl _, Rd.zero⟩
  · refine ⟨_, cap, rfl, hc, fun hn => ⟨_, rfl, by simp; omega, ?_, fun j hj => ?_⟩⟩
    · rcases Nat.lt_or_ge g w.heap.size with hl | hl
      · exact hl
      · rw [Array.getElem?_eq_none hl] at hh; cases hh
    · have h1 := h.cells (g := g) rfl j (k j) (by rw [List.getElem?_map, List.getElem?_range (by omega)]; rfl)
      exact h1
end

theorem range_snoc (k : Nat → Value) (n : Nat) : (List.range (n + 1)).map k = (List.range n).map k ++ [k n] := by rw [List.range_succ, List.map_append]; rfl
theorem range_congr {k k' : Nat → Value} {n : Nat} (h : ∀ j, j < n → k j = k' j) : (List.range n).map k = (List.range n).map k' := List.map_congr_left (fun j hj => h j (List.mem_range.1 hj))

/-- the one cell that is laid ahead of an append -/
theorem news_one {w : World} {t : Nat} {v v' : Value} (h : v = v') : ∀ j u, [v'][j]? = some u → (w.alloc (.cells #[v] t)).cell? ((⟨w.heap.size, 0, none⟩ : Addr).add j) = some u := by
  subst h
  intro j u hj
  match j, hj with
  | 0, hj => simp at hj; subst hj; simp [Addr.add]
theorem one_u8 (x : Int) : ∀ u ∈ [Value.int .u8 x], u.oneCell' = true := by intro u hu; simp at hu; subst hu; rfl
theorem one_i64 (x : Int) : ∀ u ∈ [Value.int .i64 x], u.oneCell' = true := by intro u hu; simp at hu; subst hu; rfl

abbrev u8s (f : Nat → Nat) : Nat → Value := fun j => .int .u8 (f j)
abbrev i64s (l : Nat → Int) : Nat → Value := fun j => .int .i64 (l j)
abbrev slis (As : Nat → Option Addr) (Ls Cs : Nat → Nat) : Nat → Value := fun j => .slice (As j) (Ls j) (Cs j)

abbrev TI : Nat := 3
theorem infoI : (Tryd.prog.info? TI).map (fun i => (i.zero, i.size, i.bytes)) = some (some (.int .i64 0), 1, 8) := by kernel_rfl

abbrev TB : Nat := 5
theorem infoB : (Tryd.prog.info? TB).map (fun i => (i.zero, i.size, i.bytes)) = some (some (.int .u8 0), 1, 1) := by kernel_rfl

abbrev TBs : Nat := 23
theorem infoS : (Tryd.prog.info? TBs).map (fun i => (i.zero, i.size, i.bytes)) = some (some nilS, 1, 24) := by kernel_rfl

theorem below_alloc (w : World) (o : Obj) : Below w.heap.size w (w.alloc o) := (Below.refl _ _).alloc (Nat.le_refl _) _
theorem below_tr {w w1 w2 : World} (h1 : Below w.heap.size w w1) (h2 : Below w1.heap.size w1 w2) : Below w.heap.size w w2 := h1.trans (h2.mono h1.size)
theorem below_drewN' (w : World) (k : Nat) : Below w.heap.size w (w.drewN k) := ⟨rfl, rfl, rfl, Nat.le_refl _, fun _ _ => rfl⟩
theorem quiet_same {P : Program} {f : FuncId} {args : Array Value} {w : World} {n : Nat} {v : Value} (h : Calls P f args (w.drewN n) fun e w' => e = .returned v ∧ w.drewN n = w') : Calls P f args (w.drewN n) fun e w'' => e = .returned v ∧ ∃ m, w'' = w.drewN m :=
  h.mono fun _ _ ⟨he, hm⟩ => ⟨he, n, hm.symm⟩

/-- a list that is appended to, behind k elements -/
def App (w : World) (e : Nat) (K : Nat → Value) (k : Nat) (v : Value) (wr : World) : Prop := wr.ownsRow w.heap.size e 1 v k ((List.range k).map K) ∧ Below w.heap.size w wr
theorem App.start (w : World) (e : Nat) (K : Nat → Value) : App w e K 0 nilS w := ⟨(World.ownsRow_nil w w.heap.size e 1 :), Below.refl _ _⟩
theorem App.step {w wr w1 : World} {e k : Nat} {K : Nat → Value} {v v' : Value} {o : Obj} (h : App w e K k v wr) (ho : w1.ownsRow w.heap.size e 1 v' (k + 1) ((List.range k).map K ++ [K k])) (hg : (wr.alloc o).grownBy w1 v.ownBlock) : App w e K (k + 1) v' w1 :=
  ⟨by rw [range_snoc]; exact ho, (h.2.alloc h.2.size o).grown hg (by simp; have := h.2.size; omega) (fun q hq => (h.1.lt q hq).1)⟩
theorem App.rd {b : Nat} {w wr : World} {e k : Nat} {K : Nat → Value} {v : Value} (h : App w e K k v wr) (hb : b < w.heap.size) : ∃ A c, v = .slice A k c ∧ k ≤ c ∧ Rd b wr K A k := Rd.of_own h.1 hb
theorem App.drew {w wr : World} {e k : Nat} {K : Nat → Value} {v : Value} (h : App w e K k v wr) : App w e K k v wr.drew := ⟨h.1, h.2.drew⟩
theorem App.congr {w wr : World} {e k : Nat} {K K' : Nat → Value} {v : Value} (h : App w e K k v wr) (hk : ∀ j, j < k → K j = K' j) : App w e K' k v wr := ⟨by rw [← range_congr hk]; exact h.1, h.2⟩

theorem lt_of_cell {w : World} {a : Addr} {v : Value} (h : w.cell? a = some v) : a.block < w.heap.size := World.block_lt_of_cell? w a h

/-- a slice of integers that came in -/
theorem rd_in {k : IntKind} {w : World} {a : Option Addr} {len cap : Nat} {zs : List Int}
    (h : (a = none ∧ len = 0 ∧ cap = 0 ∧ zs = []) ∨ ∃ x, a = some x ∧ len ≤ cap ∧ cap ≤ maxLen ∧ zs.length = cap ∧ (∀ i, i < zs.length → w.cell? (x.add i) = some (.int k (zs.getD i 0))) ∧ ∀ n ∈ zs, (Lit.int k n).wf = true) :
    len ≤ cap ∧ ∀ b, w.heap.size ≤ b → Rd b w (fun j => .int k (zs.getD j 0)) a len := by
  rcases h with ⟨rfl, rfl, rfl, rfl⟩ | ⟨x, rfl, h1, _, h2, h3, _⟩
  · exact ⟨Nat.le_refl _, fun _ _ => Rd.zero⟩
  · refine ⟨h1, fun b hb hn => ⟨x, rfl, ?_, ?_, fun j hj => h3 j (by omega)⟩⟩
    · have := lt_of_cell (h3 0 (by omega))
      rw [block_of_add] at this
      omega
    · have := lt_of_cell (h3 0 (by omega))
      rwa [block_of_add] at this

/-- the error's number -/
def errOf (t : Bool) : Int := if t then 0 else 1

theorem cells_rd {b : Nat} {w : World} {k : Nat → Value} {ad : Addr} {n : Nat} (h : Rd b w k (some ad) n) : ∀ j u, ((List.range n).map k)[j]? = some u → w.cell? (ad.add j) = some u := fun j u hj => by
  have hjn : j < n := by
    rcases Nat.lt_or_ge j n with h' | h'
    · exact h'
    · rw [List.getElem?_eq_none (by simpa using h')] at hj; cases hj
  rw [List.getElem?_map, List.getElem?_range hjn] at hj
  obtain ⟨ad', e, hc⟩ := h.at_ hjn
  injection e with e
  subst e
  rw [hc]
  exact hj

theorem append_rd {P : Program} (w : World) {ops : Array Oper} {rest : List Oper} {o : Oper} {a : Act} {Q : Exit → Act → World → Prop} (hgd : o.guard = none) (s x : Operand) (t : TypeId)
    (ho : o.op = .call { callee := .builtin .append, args := #[s, x], argTypes := #[t, t] }) (base : Nat) (e : TypeId) (i : TypeInfo) (z : Value) (bytes : Nat) (ht : P.underlying t = some (.slice e)) (hi : P.info? e = some i) (hz : i.zero = some z)
    (hsize : i.size = 1) (hby : i.bytes = bytes) (hzs : z.cells.size = 1) (v : Value) (n : Nat) (xs : List Value) (hs : a.eval s = v) (hown : w.ownsRow base e 1 v n xs)
    (b : Nat) (k : Nat → Value) (A : Option Addr) (m c : Nat) (hx : a.eval x = .slice A m c) (hc : A = none → c = 0) (hr : Rd b w k A m) (h1 : ∀ j, (k j).oneCell' = true)
    (h63 : n + m ≤ maxLen) (hbytes : (n + m) * bytes ≤ 140737488355328) (hbase : base ≤ w.heap.size)
    (h : ∀ v' w', w'.ownsRow base e 1 v' (n + m) (xs ++ (List.range m).map k) → w.grownBy w' v.ownBlock → wpList P ops Q rest (a.put o.dst v') w') : wpList P ops Q (o :: rest) a w := by
  rcases A with _ | ad
  · have hm : m = 0 := by
      rcases Nat.eq_zero_or_pos m with h0 | h0
      · exact h0
      · obtain ⟨_, e, _⟩ := hr h0
        cases e
    subst hm
    obtain rfl := hc rfl
    exact wpList_append_own_none hgd s x t ho base e i 1 ht hi v n xs hs hown hx (h v w (by simpa using hown) (World.grownBy.refl w _))
  · exact wpList_append_own w hgd s x t ho base e i z 1 bytes ht hi hz hsize hby hzs (by decide) v n xs hs hown ad m c _ hx (by simp) (cells_rd hr) (fun u hu => by obtain ⟨j, _, rfl⟩ := List.mem_map.1 hu; exact h1 j) h63 hbytes hbase (fun v' w' h2 h3 _ => h v' w' h2 h3)

/-- a slice of bytes of the call's own: it may be written -/
def Own (H : Nat) (w : World) (k : Nat → Value) (A : Option Addr) (n c : Nat) : Prop :=
  n ≤ c ∧ (0 < n → ∃ g K, A = some ⟨g, 0, none⟩ ∧ H ≤ g ∧ w.rowIs g TB c K ∧ ∀ j, j < n → K j = k j)

theorem Own.of_own {H n : Nat} {w : World} {k : Nat → Value} {v : Value} (h : w.ownsRow H TB 1 v n ((List.range n).map k)) : ∃ A c, v = .slice A n c ∧ Own H w k A n c := by
  rcases h.2 with ⟨rfl, rfl⟩ | ⟨g, cap, cur, rfl, hg, hh, hc, _, hs, ht⟩
  · exact ⟨none, 0, rfl, Nat.le_refl _, fun h => absurd h (by omega)⟩
  · refine ⟨_, cap, rfl, hc, fun hn => ⟨g, fun j => (cur[j]?).getD nilS, rfl, hg, ⟨cur, hh, by omega, fun i hi => ?_⟩, fun j hj => ?_⟩⟩
    · show cur[i]? = some ((cur[i]?).getD nilS)
      rw [Array.getElem?_eq_getElem (by omega)]; rfl
    · have h1 : (cur.toList.take (n * 1))[j]? = some (k j) := by rw [ht, List.getElem?_map, List.getElem?_range (by omega)]; rfl
      rw [List.getElem?_take, if_pos (by omega), Array.getElem?_toList] at h1
      show (cur[j]?).getD nilS = k j
      rw [h1]; rfl
theorem Own.rd {b H n c : Nat} {w : World} {k : Nat → Value} {A : Option Addr} (h : Own H w k A n c) (hb : b < H) : Rd b w k A n := fun hn => by
  obtain ⟨g, K, rfl, hg, hr, he⟩ := h.2 hn
  exact ((Rd.of_row (b := b) hr (by omega) h.1).congr he) hn
theorem Own.congr {H n c : Nat} {w : World} {k k' : Nat → Value} {A : Option Addr} (h : Own H w k A n c) (he : ∀ j, j < n → k j = k' j) : Own H w k' A n c :=
  ⟨h.1, fun hn => by
    obtain ⟨g, K, h1, hg, hr, h2⟩ := h.2 hn
    exact ⟨g, K, h1, hg, hr, fun j hj => (h2 j hj).trans (he j hj)⟩⟩

/-- what is told of bytes: they lie apart from b, and from all that lay there -/
def BytesTold (b n : Nat) (k : Nat → Nat) (w : World) (v : Value) (w' : World) : Prop := ∃ A c, v = .slice A n c ∧ (n ≤ c ∧ ∀ g, g < w.heap.size → Rd g w' (u8s k) A n) ∧ Rd b w' (u8s k) A n ∧ Below w.heap.size w w'
theorem BytesTold.of {b n : Nat} {l : Nat → Nat} {w w' : World} {v : Value} (h : App w TB (u8s l) n v w') (hb : b < w.heap.size) : BytesTold b n l w v w' := by
  obtain ⟨A, c, h1, h2, h3⟩ := h.rd hb
  exact ⟨A, c, h1, ⟨h2, fun g hg => by
    obtain ⟨A', c', e, _, h4⟩ := h.rd hg
    rw [h1] at e
    injection e with e
    subst e
    exact h4⟩, h3, h.2⟩
theorem BytesTold.from {b n : Nat} {k : Nat → Nat} {w w1 w' : World} {v : Value} (hb : Below w.heap.size w w1) (h : BytesTold b n k w1 v w') : BytesTold b n k w v w' := by
  obtain ⟨A, c, h1, h2, h3, h4⟩ := h
  exact ⟨A, c, h1, ⟨h2.1, fun g hg => h2.2 g (Nat.lt_of_lt_of_le hg hb.size)⟩, h3, below_tr hb h4⟩
theorem bytesTold_nil {b : Nat} {k : Nat → Nat} {w w' : World} (h : Below w.heap.size w w') : BytesTold b 0 k w nilS w' := ⟨none, 0, rfl, ⟨Nat.le_refl _, fun _ _ => Rd.zero⟩, Rd.zero, h⟩

/-- one row, handed over as rows -/
theorem rd_row {b : Nat} {w : World} (hb : b < w.heap.size) (A : Option Addr) (n c : Nat) : Rd b (w.alloc (.cells #[.slice A n c] TBs)) (slis (fun _ => A) (fun _ => n) (fun _ => c)) (some ⟨w.heap.size, 0, none⟩) 1 := by
  have h := World.rowIs_alloc w #[.slice A n c] TBs (slis (fun _ => A) (fun _ => n) (fun _ => c)) (fun i hi => by
    simp at hi
    subst hi
    rfl)
  exact Rd.of_row h (by omega) (by simp)

/-- two rows, handed over as rows -/
theorem rd_rows2 {b : Nat} {w : World} (hb : b < w.heap.size) (A B : Option Addr) (n m c d : Nat) :
    Rd b (w.alloc (.cells #[.slice A n c, .slice B m d] TBs)) (slis (fun j => if j = 0 then A else B) (fun j => if j = 0 then n else m) (fun j => if j = 0 then c else d)) (some ⟨w.heap.size, 0, none⟩) 2 := by
  have h := World.rowIs_alloc w #[.slice A n c, .slice B m d] TBs (slis (fun j => if j = 0 then A else B) (fun j => if j = 0 then n else m) (fun j => if j = 0 then c else d)) (fun i hi => by
    simp at hi
    match i, hi with
    | 0, _ => rfl
    | 1, _ => rfl)
  exact Rd.of_row h (by omega) (by simp)

/-- n bytes as a string -/
def strF (f : Nat → Nat) (n : Nat) : ByteArray := strOfNums ((List.range n).map (fun j => (f j : Int)))
theorem strF_congr {f g : Nat → Nat} {n : Nat} (h : ∀ j, j < n → f j = g j) : strF f n = strF g n := by
  unfold strF
  congr 1
  exact List.map_congr_left (fun j hj => by rw [h j (List.mem_range.1 hj)])

set_option maxRecDepth 100000 in
theorem conv_rd {b : Nat} {w : World} {f : Nat → Nat} {A : Option Addr} {n : Nat} (c : Nat) (h : Rd b w (u8s f) A n) : (convert TBs 9 (.slice A n c)).run Tryd.prog w = .ok (.string (strF f n)) w := by
  have hs : Tryd.prog.underlying TBs = some (.slice TB) := Tryd.underlying23
  have he : Tryd.prog.underlying TB = some (.int .u8) := Tryd.underlying5
  have hd : Tryd.prog.underlying 9 = some .string := Tryd.underlying9
  rcases A with _ | ad
  · have h0 : n = 0 := by
      rcases Nat.eq_zero_or_pos n with h' | h'
      · exact h'
      · obtain ⟨_, e, _⟩ := h h'
        cases e
    subst h0
    rw [run_convert_bytes_nil w TBs TB hs he 0 c _ hd]
    rfl
  · have hl : (loadCells ad n).run Tryd.prog w = .ok (((List.range n).map (fun j => (f j : Int))).map (Value.int .u8)).toArray w := by
      have := run_loadCells_list (P := Tryd.prog) w ad (((List.range n).map (fun j => (f j : Int))).map (Value.int .u8)) (fun j v hj => by
        have hjn : j < n := by
          rcases Nat.lt_or_ge j n with h' | h'
          · exact h'
          · rw [List.getElem?_eq_none (by simpa using h')] at hj; cases hj
        obtain ⟨ad', e, hc⟩ := h.at_ hjn
        injection e with e
        subst e
        rw [List.getElem?_map, List.getElem?_map, List.getElem?_range hjn] at hj
        rw [hc]
        exact hj)
      simpa using this
    rw [run_convert_bytes_string w TBs _ TB _ n c hs he hd, run_bytesToString w _ n c _ hl, foldl_push_bytes]
    simp [strF, strOfNums, ByteArray.empty, ByteArray.emptyWithCapacity]
    rfl

/-- bytes that came in -/
theorem rd_bytes {w : World} {a : Option Addr} {len cap : Nat} {zs : List Int}
    (h : (a = none ∧ len = 0 ∧ cap = 0 ∧ zs = []) ∨ ∃ x, a = some x ∧ len ≤ cap ∧ cap ≤ maxLen ∧ zs.length = cap ∧ (∀ i, i < zs.length → w.cell? (x.add i) = some (.int .u8 (zs.getD i 0))) ∧ ∀ n ∈ zs, (Lit.int .u8 n).wf = true) :
    len ≤ cap ∧ ∃ f : Nat → Nat, (∀ j, f j < 256) ∧ ∀ b, w.heap.size ≤ b → Rd b w (u8s f) a len := by
  have h1 := rd_in h
  have hz : ∀ n ∈ zs, (Lit.int .u8 n).wf = true := by
    rcases h with ⟨_, _, _, rfl⟩ | ⟨_, _, _, _, _, _, h⟩
    · intro n hn; cases hn
    · exact h
  have hr := fun j => range_u8 hz j
  refine ⟨h1.1, fun j => (zs.getD j 0).toNat, fun j => ?_, fun b hb => (h1.2 b hb).congr (fun j _ => ?_)⟩
  · have := hr j
    simp only [List.getD_eq_getElem?_getD]
    omega
  · have := hr j
    simp only [u8s, List.getD_eq_getElem?_getD]
    congr 1
    omega

/-- bytes that came in -/
def IsBytes (w : World) (a : Option Addr) (len cap : Nat) : Prop := ∃ f : Nat → Nat, (∀ j, f j < 256) ∧ len ≤ cap ∧ ∀ b, w.heap.size ≤ b → Rd b w (u8s f) a len

theorem bytes_in {H : Type} {enc : TypeId × Value → H} {W : World} {base : Nat} {held : Bool} {fuel : Nat} {a : Option Addr} {len cap : Nat} {x : DataW H × List MemPlace}
    (h : DataW.trod enc Tryd.prog W base (fun _ => true) held fuel 23 [.slice a len cap] = some x) : IsBytes W a len cap := by
  rcases open_ints Tryd.underlying23 Tryd.underlying5 (by kernel_rfl) h with ⟨hcs, _⟩ | ⟨ad, l, c, zs, hcs, _, hl, hm, hz, _, hcell, hwz⟩
  · simp at hcs
    obtain ⟨rfl, rfl, rfl⟩ := hcs
    exact ⟨fun _ => 0, fun _ => Nat.zero_lt_succ _, Nat.le_refl _, fun _ _ => Rd.zero⟩
  · simp at hcs
    obtain ⟨rfl, rfl, rfl⟩ := hcs
    have h1 := rd_in (k := .u8) (w := W) (a := some ad) (len := len) (cap := cap) (zs := zs) (Or.inr ⟨ad, rfl, hl, hm, by simpa using hz, hcell, hwz⟩)
    have hr := fun j => range_u8 hwz j
    refine ⟨fun j => (zs.getD j 0).toNat, fun j => ?_, h1.1, fun b hb => (h1.2 b hb).congr (fun j _ => ?_)⟩
    · have := hr j
      simp only [List.getD_eq_getElem?_getD]
      omega
    · have := hr j
      simp only [u8s, List.getD_eq_getElem?_getD]
      congr 1
      omega

theorem step_append_rd {P : Program} (w : World) {ops : Array Oper} {o : Oper} {a : Act} {K : Act → World → Prop} {Q : Exit → Act → World → Prop} {E : Prop} (hgd : o.guard = none) (s x : Operand) (t : TypeId)
    (ho : o.op = .call { callee := .builtin .append, args := #[s, x], argTypes := #[t, t] }) (base : Nat) (e : TypeId) (i : TypeInfo) (z : Value) (bytes : Nat) (ht : P.underlying t = some (.slice e)) (hi : P.info? e = some i) (hz : i.zero = some z)
    (hsize : i.size = 1) (hby : i.bytes = bytes) (hzs : z.cells.size = 1) (v : Value) (n : Nat) (xs : List Value) (hs : a.eval s = v) (hown : w.ownsRow base e 1 v n xs)
    (b : Nat) (k : Nat → Value) (A : Option Addr) (m c : Nat) (hx : a.eval x = .slice A m c) (hc : A = none → c = 0) (hr : Rd b w k A m) (h1 : ∀ j, (k j).oneCell' = true)
    (h63 : n + m ≤ maxLen) (hbytes : (n + m) * bytes ≤ 140737488355328) (hbase : base ≤ w.heap.size) (H : Nat) (hH : w.heap.size = H)
    (h : ∀ v' w', w'.ownsRow base e 1 v' (n + m) (xs ++ (List.range m).map k) → w.grownBy w' v.ownBlock → (v'.ownBlock = v.ownBlock ∨ v'.ownBlock = some H) → K (a.put o.dst v') w') :
    if Region.wanted o (yielded ops a.tmps) = true then Oper.wp P o a w K Q else E := by
  have hw : Region.wanted o (yielded ops a.tmps) = true := by simp [Region.wanted, hgd]
  rw [if_pos hw]
  rcases A with _ | ad
  · have hm : m = 0 := by
      rcases Nat.eq_zero_or_pos m with h0 | h0
      · exact h0
      · obtain ⟨_, e, _⟩ := hr h0
        cases e
    subst hm
    obtain rfl := hc rfl
    have hrun := run_append_owned_none (P := P) (w := w) base t o.type e i 1 ht hi v n xs hown
    unfold Oper.wp
    simp [execOp, ho, resolve, invoke, builtin, hs, hx, hrun, Result.andThen]
    exact h v w (by simpa using hown) (World.grownBy.refl w _) (Or.inl rfl)
  · obtain ⟨v', w', hrun, h2, h3, _, h5⟩ := run_append_own_at (P := P) w base t o.type e i z 1 bytes ht hi hz hsize hby hzs (by decide) v n xs hown ad m c ((List.range m).map k) (by simp) (cells_rd hr) (fun u hu => by obtain ⟨j, _, rfl⟩ := List.mem_map.1 hu; exact h1 j) h63 hbytes hbase
    unfold Oper.wp execOp
    simp only [ho, resolve, invoke, builtin, Sem.run_bind, Sem.run_pure, Result.andThen_ok, List.map_toArray, List.map_cons, List.map_nil, hs, hx, hrun]
    exact h v' w' h2 h3 (by rw [← hH]; exact h5)

/-- what is laid is the call's own -/
theorem own_fresh (w : World) (base e : Nat) (cs : Array Value) (n H : Nat) (hH : w.heap.size = H) (hb : base ≤ H) (hm : n ≤ maxLen) (hs : cs.size = n) : (w.alloc (.cells cs e)).ownsRow base e 1 (.slice (some ⟨H, 0, none⟩) n n) n cs.toList := by
  subst hH
  exact World.ownsRow_lit w cs n hb hm (by omega)
theorem own_fresh0 (w : World) (base e H : Nat) (hH : w.heap.size = H) (hb : base ≤ H) : (w.alloc (.cells #[] e)).ownsRow base e 1 (.slice (some ⟨H, 0, none⟩) 0 0) 0 [] := own_fresh w base e #[] 0 H hH hb (by unfold maxLen; omega) rfl
theorem own_fresh1 (w : World) (base e H : Nat) (u : Value) (hH : w.heap.size = H) (hb : base ≤ H) : (w.alloc (.cells #[u] e)).ownsRow base e 1 (.slice (some ⟨H, 0, none⟩) 1 1) 1 [u] := own_fresh w base e #[u] 1 H hH hb (by unfold maxLen; omega) rfl
theorem own_freshM (w : World) (base e n H : Nat) (u : Value) (hH : w.heap.size = H) (hb : base ≤ H) (hn : n ≤ 1000) : (w.alloc (.cells (madeCells #[u] n) e)).ownsRow base e 1 (.slice (some ⟨H, 0, none⟩) n n) n (madeCells #[u] n).toList := own_fresh w base e _ n H hH hb (by unfold maxLen; omega) (size_madeCells _ _)

/-- .. what was appended to, given back too -/
theorem step_append_rd' {P : Program} (w : World) {ops : Array Oper} {o : Oper} {a : Act} {K : Act → World → Prop} {Q : Exit → Act → World → Prop} {E : Prop} (hgd : o.guard = none) (s x : Operand) (t : TypeId)
    (ho : o.op = .call { callee := .builtin .append, args := #[s, x], argTypes := #[t, t] }) (base : Nat) (e : TypeId) (i : TypeInfo) (z : Value) (bytes : Nat) (ht : P.underlying t = some (.slice e)) (hi : P.info? e = some i) (hz : i.zero = some z)
    (hsize : i.size = 1) (hby : i.bytes = bytes) (hzs : z.cells.size = 1) (v : Value) (n : Nat) (xs : List Value) (hs : a.eval s = v) (hown : w.ownsRow base e 1 v n xs)
    (b : Nat) (k : Nat → Value) (A : Option Addr) (m c : Nat) (hx : a.eval x = .slice A m c) (hc : A = none → c = 0) (hr : Rd b w k A m) (h1 : ∀ j, (k j).oneCell' = true)
    (h63 : n + m ≤ maxLen) (hbytes : (n + m) * bytes ≤ 140737488355328) (hbase : base ≤ w.heap.size)
    (h : ∀ v' w', w.ownsRow base e 1 v n xs → w'.ownsRow base e 1 v' (n + m) (xs ++ (List.range m).map k) → w.grownBy w' v.ownBlock → K (a.put o.dst v') w') :
    if Region.wanted o (yielded ops a.tmps) = true then Oper.wp P o a w K Q else E :=
  step_append_rd w hgd s x t ho base e i z bytes ht hi hz hsize hby hzs v n xs hs hown b k A m c hx hc hr h1 h63 hbytes hbase _ rfl fun v' w' h2 h3 _ => h v' w' hown h2 h3

/-- rows of unlike kinds lie apart -/
theorem keep_kind {W w' : World} {base e e' n n' : Nat} {v v' : Value} {xs xs' : List Value} (hold : W.ownsRow base e 1 v n xs) (hgr : W.grownBy w' v.ownBlock) (hne : e' ≠ e) (h : W.ownsRow base e' 1 v' n' xs') : w'.ownsRow base e' 1 v' n' xs' := by
  refine h.kept hgr ?_
  rcases h.2 with ⟨rfl, _⟩ | ⟨g, cap, cur, rfl, _, hg, _⟩
  · exact Or.inl rfl
  · refine Or.inr ?_
    rcases hold.2 with ⟨rfl, _⟩ | ⟨g', cap', cur', rfl, _, hg', _⟩
    · simp [Value.ownBlock]
    · simp only [Value.ownBlock]
      intro he
      injection he with he
      subst he
      rw [hg] at hg'
      injection hg' with hg'
      injection hg' with _ h2
      exact hne h2
theorem below_grown {w0 W w' : World} {e n : Nat} {v : Value} {xs : List Value} (h : Below w0.heap.size w0 W) (ho : W.ownsRow w0.heap.size e 1 v n xs) (hg : W.grownBy w' v.ownBlock) : Below w0.heap.size w0 w' := h.grown hg h.size (fun q hq => (ho.lt q hq).1)
theorem rd_one {W : World} {base e b g : Nat} {u : Value} (h : W.ownsRow base e 1 (.slice (some ⟨g, 0, none⟩) 1 1) 1 [u]) (hb : b < base) : Rd b W (fun _ => u) (some ⟨g, 0, none⟩) 1 := by
  obtain ⟨A, c, e1, _, h3⟩ := Rd.of_own (k := fun _ => u) (b := b) h hb
  injection e1 with e1
  rw [e1]
  exact h3

theorem one_box {w v : World} {x : Array Value} {t : Nat} (h : w.alloc (.cells x t) = v) : v.heap.size = w.heap.size + 1 ∧ v.heap[w.heap.size]? = some (.cells x t (0, 0)) ∧ Below w.heap.size w v := by
  subst h
  exact ⟨by simp, World.alloc_heap_new w _, below_alloc w _⟩
theorem two_boxes {w v : World} {x y : Array Value} {t u : Nat} (h : (w.alloc (.cells x t)).alloc (.cells y u) = v) :
    v.heap.size = w.heap.size + 2 ∧ v.heap[w.heap.size]? = some (.cells x t (0, 0)) ∧ v.heap[w.heap.size + 1]? = some (.cells y u (0, 0)) ∧ Below w.heap.size w v := by
  obtain ⟨v1, h1⟩ : ∃ v1, w.alloc (.cells x t) = v1 := ⟨_, rfl⟩
  rw [h1] at h
  obtain ⟨s1, e1, b1⟩ := one_box h1
  obtain ⟨s2, e2, b2⟩ := one_box h
  refine ⟨by omega, (b2.block _ (by omega)).trans e1, by rw [← s1]; exact e2, below_tr b1 b2⟩
theorem kept_box {w w' : World} {g : Nat} {o : Obj} (h : w.heap[g]? = some o) (hb : Below w.heap.size w w') : w'.heap[g]? = some o :=
  (hb.block g (by
    rcases Nat.lt_or_ge g w.heap.size with hl | hl
    · exact hl
    · rw [Array.getElem?_eq_none hl] at h; cases h)).trans h
theorem box_at {w : World} {g i : Nat} {cs : Array Value} {t : Nat} {fr : Nat × Nat} {x : Value} (h : w.heap[g]? = some (.cells cs t fr)) (hx : cs[i]? = some x) : w.cell? ⟨g, i, none⟩ = some x :=
  (cell_of_row w g i cs t fr h).trans hx
theorem Rd.above {g b : Nat} {W : World} {K : Nat → Value} {A : Option Addr} {n : Nat} (h : Rd g W K A n) (hb : W.heap.size ≤ b) : Rd b W K A n := fun hn => by
  obtain ⟨ad, h1, _, h3, h4⟩ := h hn
  exact ⟨ad, h1, by omega, h3, h4⟩
/-- a struct's box behind a call that makes memory, and another block behind it -/
theorem box_cell {w w1 : World} {o : Obj} {cs : Array Value} {t i : Nat} {v : Value} (hb : Below (w.alloc (.cells cs t)).heap.size (w.alloc (.cells cs t)) w1) (h : cs[i]? = some v) :
    w1.cell? ⟨w.heap.size, i, none⟩ = some v ∧ (w1.alloc o).cell? ⟨w.heap.size, i, none⟩ = some v := by
  have h1 : (w.alloc (.cells cs t)).cell? ⟨w.heap.size, i, none⟩ = some v := by simp [h]
  have hlt : w.heap.size < (w.alloc (.cells cs t)).heap.size := by simp
  have h2 := (hb.cell (p := ⟨w.heap.size, i, none⟩) hlt).trans h1
  have h3 := ((Below.refl _ w1).alloc (Nat.le_refl _) o).cell (p := ⟨w.heap.size, i, none⟩) (Nat.lt_of_lt_of_le hlt hb.size)
  exact ⟨h2, h3.trans h2⟩

theorem i64_or_nat (a b : Nat) (ha : a < 9223372036854775808) (hb : b < 9223372036854775808) : bits .or .i64 (a : Int) (b : Int) = ((a ||| b : Nat) : Int) := by
  have hx : a ||| b < 2 ^ 63 := Nat.or_lt_two_pow (by omega) (by omega)
  show IntKind.i64.wrap ((BitVec.ofInt 64 (a : Int) ||| BitVec.ofInt 64 (b : Int)).toNat : Int) = _
  rw [BitVec.toNat_or, ofInt_u64 a (by omega), ofInt_u64 b (by omega), IntKind.wrap_i64]
  omega
end Go.Proofs.YtbhpfdikkknijaaDoor
