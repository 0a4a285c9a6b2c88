/- append onto a row of the call's own, of whatever bytes, nil let in. -/
import Derived.Test.YtjpjgkagebckpaaRgl
import Derived.Laws.AppendOwnNone
namespace Go.Proofs.Ytjpjgkagebckpaa
open Go.RowKit

theorem cells_rd {b : Nat} {w : World} {k : Nat → Value} {ad : Addr} {n : Nat} (h : Rd b w k (some ad) n) : ∀ j u, ((List.range n).map k)[j]? = some u → w.cell? (ad.add j) = some u := fun j u hj => by
  have hjn : j < n := by
    rcases Nat.lt_or_ge j n with h' | h'
    · exact h'
    · rw [List.getElem?_eq_none (by simpa using h')] at hj; cases hj
  rw [List.getElem?_map, List.getElem?_range hjn] at hj
  obtain ⟨ad', e, hc⟩ := h.at_ hjn
  injection e with e
  subst e
  rw [hc]
  exact hj

theorem append_rd {P : Program} (w : World) {ops : Array Oper} {rest : List Oper} {o : Oper} {a : Act} {Q : Exit → Act → World → Prop} (hgd : o.guard = none) (s x : Operand) (t : TypeId)
    (ho : o.op = .call { callee := .builtin .append, args := #[s, x], argTypes := #[t, t] }) (base : Nat) (e : TypeId) (i : TypeInfo) (z : Value) (bytes : Nat) (ht : P.underlying t = some (.slice e)) (hi : P.info? e = some i) (hz : i.zero = some z)
    (hsize : i.size = 1) (hby : i.bytes = bytes) (hzs : z.cells.size = 1) (v : Value) (n : Nat) (xs : List Value) (hs : a.eval s = v) (hown : w.ownsRow base e 1 v n xs)
    (b : Nat) (k : Nat → Value) (A : Option Addr) (m c : Nat) (hx : a.eval x = .slice A m c) (hc : A = none → c = 0) (hr : Rd b w k A m) (h1 : ∀ j, (k j).oneCell' = true)
    (h63 : n + m ≤ maxLen) (hbytes : (n + m) * bytes ≤ 140737488355328) (hbase : base ≤ w.heap.size)
    (h : ∀ v' w', w'.ownsRow base e 1 v' (n + m) (xs ++ (List.range m).map k) → w.grownBy w' v.ownBlock → wpList P ops Q rest (a.put o.dst v') w') : wpList P ops Q (o :: rest) a w := by
  rcases A with _ | ad
  · have hm : m = 0 := by
      rcases Nat.eq_zero_or_pos m with h0 | h0
      · exact h0
      · obtain ⟨_, e, _⟩ := hr h0
        cases e
    subst hm
    obtain rfl := hc rfl
    exact wpList_append_own_none hgd s x t ho base e i 1 ht hi v n xs hs hown hx (h v w (by simpa using hown) (World.grownBy.refl w _))
  · exact wpList_append_own w hgd s x t ho base e i z 1 bytes ht hi hz hsize hby hzs (by decide) v n xs hs hown ad m c _ hx (by simp) (cells_rd hr) (fun u hu => by obtain ⟨j, _, rfl⟩ := List.mem_map.1 hu; exact h1 j) h63 hbytes hbase (fun v' w' h2 h3 _ => h v' w' h2 h3)

/-- two rows, handed over as rows -/
theorem rd_rows2 {b : Nat} {w : World} (hb : b < w.heap.size) (A B : Option Addr) (n m c d : Nat) :
    Rd b (w.alloc (.cells #[.slice A n c, .slice B m d] TBs)) (slis (fun j => if j = 0 then A else B) (fun j => if j = 0 then n else m) (fun j => if j = 0 then c else d)) (some ⟨w.heap.size, 0, none⟩) 2 := by
  have h := World.rowIs_alloc w #[.slice A n c, .slice B m d] TBs (slis (fun j => if j = 0 then A else B) (fun j => if j = 0 then n else m) (fun j => if j = 0 then c else d)) (fun i hi => by
    simp at hi
    match i, hi with
    | 0, _ => rfl
    | 1, _ => rfl)
  exact Rd.of_row h (by omega) (by simp)
end Go.Proofs.Ytjpjgkagebckpaa
