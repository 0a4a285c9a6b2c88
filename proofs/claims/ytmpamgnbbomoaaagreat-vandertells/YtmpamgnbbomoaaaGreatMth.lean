/- Contracts of package matrix: rows joined, and a column multiplied. -/
import Derived.Test.YtmpamgnbbomoaaaGreatMtg
import Derived.Lib.AppendZeros
import Derived.Deep.RegionHeld3
namespace Go.Proofs.YtmpamgnbbomoaaaGreat
open Go.RowKit

/-- two rows of values, one behind the other -/
def joinV (n : Nat) (K L : Nat → Value) (r : Nat) : Value := if r < n then K r else L (r - n)
theorem joinV_all (n m : Nat) (K L : Nat → Value) : (List.range (n + m)).map (joinV n K L) = (List.range n).map K ++ (List.range m).map L := by
  rw [List.range_add, List.map_append, List.map_map]
  congr 1
  · exact List.map_congr_left (fun r hr => by simp only [joinV]; rw [if_pos (List.mem_range.1 hr)])
  · exact List.map_congr_left (fun r _ => by simp only [joinV, Function.comp]; rw [if_neg (by omega), Nat.add_sub_cancel_left])
theorem one_slis (As : Nat → Option Addr) (Ls Cs : Nat → Nat) (j : Nat) : (slis As Ls Cs j).oneCell' = true := rfl

/-- in Concat's second loop -/
def CatAt (n k : Nat) (K L : Nat → Value) (w0 : World) (s6 s27 : Value) (wr : World) : Prop :=
  Below w0.heap.size w0 wr ∧ ((s27 = .int .i64 0 ∧ wr.ownsRow w0.heap.size TIs 1 s6 0 []) ∨ (s27 = .int .i64 1 ∧ wr.ownsRow w0.heap.size TIs 1 s6 n ((List.range n).map K)) ∨ (s27 = .int .i64 2 ∧ wr.ownsRow w0.heap.size TIs 1 s6 (n + k) ((List.range n).map K ++ (List.range k).map L)))

theorem may_yes (b wd c : Nat) (hk : Kind wd c) (F : Nat → Nat → Int) (Ls : Nat → Nat) (A : Option Addr) (n cap : Nat) (w : World) (hc : w.cell? ⟨b, 0, none⟩ = some (.int .i64 wd)) (hr : Mx b w F Ls A n) (h : mayP c n Ls F) :
    Calls Tryz.prog 41 #[.pointer (some ⟨b, 0, none⟩), .slice A n cap] w fun e w' => e = .returned (.bool true) ∧ w = w' :=
  (may16 b wd c hk F Ls A n cap w hc hr).mono fun e w' ⟨t, he, ht, hw⟩ => ⟨by rw [he, ht.2 h], hw⟩
theorem may_no (b wd c : Nat) (hk : Kind wd c) (F : Nat → Nat → Int) (Ls : Nat → Nat) (A : Option Addr) (n cap : Nat) (w : World) (hc : w.cell? ⟨b, 0, none⟩ = some (.int .i64 wd)) (hr : Mx b w F Ls A n) (h : ¬ mayP c n Ls F) :
    Calls Tryz.prog 41 #[.pointer (some ⟨b, 0, none⟩), .slice A n cap] w fun e w' => e = .returned (.bool false) ∧ w = w' :=
  (may16 b wd c hk F Ls A n cap w hc hr).mono fun e w' ⟨t, he, ht, hw⟩ => ⟨by
    cases t
    · exact he
    · exact absurd (ht.1 rfl) h, hw⟩

/-- rows may be joined -/
def joinP (c n : Nat) (La : Nat → Nat) (F : Nat → Nat → Int) (k : Nat) (Lb : Nat → Nat) (G : Nat → Nat → Int) : Prop := mayP c n La F ∧ mayP c k Lb G ∧ La 0 = Lb 0 ∧ n + k ≤ 20
/-- two matrices' rows, one behind the other -/
def joinF (n : Nat) (F G : Nat → Nat → Int) (r : Nat) : Nat → Int := if r < n then F r else G (r - n)
def joinL (n : Nat) (La Lb : Nat → Nat) (r : Nat) : Nat := if r < n then La r else Lb (r - n)
/-- what Join tells -/
def JoinAny (c n : Nat) (La : Nat → Nat) (F : Nat → Nat → Int) (k : Nat) (Lb : Nat → Nat) (G : Nat → Nat → Int) (w : World) (e : Ending) (w' : World) : Prop :=
  ∃ t v, e = .returned (.tuple #[v, .int .i64 (errOf t)]) ∧ (t = true ↔ joinP c n La F k Lb G) ∧ MatTold (cond t (n + k) 0) (joinF n F G) (joinL n La Lb) w v w'
theorem JoinAny.no {c n : Nat} {La : Nat → Nat} {F : Nat → Nat → Int} {k : Nat} {Lb : Nat → Nat} {G : Nat → Nat → Int} {w w' : World} (h : ¬ joinP c n La F k Lb G) (hb : Below w.heap.size w w') : JoinAny c n La F k Lb G w (.returned (.tuple #[nilS, .int .i64 1])) w' :=
  ⟨false, _, rfl, by simp [h], MatTold.nil hb⟩

theorem side_yes (n : Nat) (h : side n) (w : World) : Calls Tryz.prog 60 #[.int .i64 n] w fun e w' => e = .returned (.bool true) ∧ w = w' :=
  (side28 n w).mono fun e w' ⟨t, he, ht, hw⟩ => ⟨by rw [he, ht.2 h], hw⟩
theorem side_no (n : Nat) (h : ¬ side n) (w : World) : Calls Tryz.prog 60 #[.int .i64 n] w fun e w' => e = .returned (.bool false) ∧ w = w' :=
  (side28 n w).mono fun e w' ⟨t, he, ht, hw⟩ => ⟨by
    cases t
    · exact he
    · exact absurd (ht.1 rfl) h, hw⟩

/-- what Apply tells -/
def AppAny (p b wd n : Nat) (La : Nat → Nat) (F : Nat → Nat → Int) (m : Nat) (l : Nat → Int) (w : World) (e : Ending) (w' : World) : Prop :=
  ∃ t A c, e = .returned (.tuple #[.slice A (cond t n 0) c, .int .i64 (errOf t)]) ∧ (t = true ↔ mayP (M.ord p) n La F ∧ La 0 = m ∧ allIn (M.ord p) l m) ∧ Rd b w' (i64s (fun r => (dotN p (F r) l m : Nat))) A (cond t n 0) ∧ Fld p b wd w' ∧ Turned b w w'
theorem AppAny.no {p b wd n : Nat} {La : Nat → Nat} {F : Nat → Nat → Int} {m : Nat} {l : Nat → Int} {w : World} (hf : Fld p b wd w) (h : ¬ (mayP (M.ord p) n La F ∧ La 0 = m ∧ allIn (M.ord p) l m)) : AppAny p b wd n La F m l w (.returned (.tuple #[nilS, .int .i64 1])) w :=
  ⟨false, none, 0, rfl, by simp [h], Rd.zero, hf, Turned.refl _ _⟩
/-- in Apply's loop -/
def AppAt (p b wd n : Nat) (F : Nat → Nat → Int) (m : Nat) (l : Nat → Int) (w : World) (s35 : Value) (wr : World) : Prop :=
  ∃ k : Nat, k ≤ n ∧ s35 = .int .i64 k ∧ wr.rowIs w.heap.size TI n (fun r => .int .i64 (if r < k then (dotN p (F r) l m : Nat) else 0)) ∧ Fld p b wd wr ∧ Turned b w wr

theorem rowIs_kind {w : World} {g t t' n n' : Nat} {k k' : Nat → Value} (h : w.rowIs g t n k) (h' : w.rowIs g t' n' k') : t = t' := by
  obtain ⟨c, h1, _⟩ := h
  obtain ⟨c', h2, _⟩ := h'
  rw [h1] at h2
  injection h2 with h2
  injection h2
/-- a store into a row of another kind leaves the field -/
theorem Fld.setRow {p b wd g m i : Nat} {w : World} {k : Nat → Value} {t : Nat} (h : Fld p b wd w) (hr : w.rowIs g t m k) (h1 : t ≠ TF) (h2 : t ≠ T16) (v : Value) : Fld p b wd (w.setCell ⟨g, i, none⟩ v) := by
  refine ⟨h.1, ?_⟩
  rcases h.2 with h | ⟨x, y, g1, g2, r1, r2, r3⟩
  · refine Or.inl (World.rowIs.setOther h (a := ⟨g, i, none⟩) ?_ v)
    rintro rfl
    exact h1 (rowIs_kind hr h)
  · refine Or.inr ⟨x, y, g1, g2, r1.setOther (a := ⟨g, i, none⟩) ?_ v, r2.setOther (a := ⟨g, i, none⟩) ?_ v, r3.setOther (a := ⟨g, i, none⟩) ?_ v⟩
    · rintro rfl
      exact h1 (rowIs_kind hr r1)
    · rintro rfl
      exact h2 (rowIs_kind hr r2)
    · rintro rfl
      exact h2 (rowIs_kind hr r3)
theorem Turned.set_new {b g i : Nat} {w w' : World} (h : Turned b w w') (hg : w.heap.size ≤ g) (v : Value) : Turned b w (w'.setCell ⟨g, i, none⟩ v) :=
  ⟨h.os, h.tape, h.output, by simpa [World.setCell] using h.size, fun k hk hb => (Below.heap_setCell _ _ _ _ (by simp; omega)).trans (h.block k hk hb)⟩

theorem appAt_step {p b wd n : Nat} {F : Nat → Nat → Int} {m : Nat} {l : Nat → Int} {w wr : World} {k : Nat} (hk : k < n) (hrow : wr.rowIs w.heap.size TI n (fun r => .int .i64 (if r < k then (dotN p (F r) l m : Nat) else 0))) (hf : Fld p b wd wr) (ht : Turned b w wr) :
    AppAt p b wd n F m l w (.int .i64 (k + 1 : Nat)) (wr.setCell ⟨w.heap.size, k, none⟩ (.int .i64 (dotN p (F k) l m : Nat))) := by
  refine ⟨k + 1, hk, rfl, (hrow.set k _).congr (fun r _ => ?_), hf.setRow hrow (by decide) (by decide) _, ht.set_new (Nat.le_refl _) _⟩
  rcases Nat.lt_trichotomy r k with h | h | h
  · rw [if_neg (by omega), if_pos h, if_pos (by omega)]
  · subst h; rw [if_pos rfl, if_pos (by omega)]
  · rw [if_neg (by omega), if_neg (by omega), if_neg (by omega)]
end Go.Proofs.YtmpamgnbbomoaaaGreat
