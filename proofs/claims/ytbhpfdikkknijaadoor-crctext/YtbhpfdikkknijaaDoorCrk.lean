/- Layer 13: pieces of its laws: a string as it comes in; appends of bytes; what follows of a sum. -/
import Derived.Test.YtbhpfdikkknijaaDoorCrj
import Derived.ChangeMaps5
import Derived.ChangeSlices
import Derived.SizedLaws
namespace Go.Proofs.YtbhpfdikkknijaaDoor
open Go.RowKit Go.ChangeShapes

theorem strF_self (s : ByteArray) : ∃ f : Nat → Nat, (∀ j, f j < 256) ∧ strF f s.size = s :=
  ⟨fun j => (s.data.getD j 0).toNat, fun j => UInt8.toNat_lt _, strF_lit rfl (fun j _ => by simp)⟩
/-- eight figures to the base 16, and nothing else, are the text of what they say -/
theorem text_back {f : Nat → Nat} (hh : ∀ j, j < 8 → isHex (f j)) : strF (txtI (readN f 8) 8) 8 = strF f 8 := strF_congr (fun j hj => text_read 8 hh j hj)
/-- .. and a text says its number -/
theorem read_back {s : Nat} (hs : s < 4294967296) : readN (txtI s 8) 8 = s := by rw [read_text s 8 (Nat.le_refl _) hs]; simp
/-- bytes one behind the other -/
def catB (f : Nat → Nat) (n : Nat) (g : Nat → Nat) : Nat → Nat := fun j => if j < n then f j else g (j - n)
theorem catB_lt {f g : Nat → Nat} (hf : ∀ j, f j < 256) (hg : ∀ j, g j < 256) (n j : Nat) : catB f n g j < 256 := by
  unfold catB
  split
  · exact hf _
  · exact hg _
theorem range_catB (f g : Nat → Nat) (n m : Nat) : (List.range (n + m)).map (u8s (catB f n g)) = (List.range n).map (u8s f) ++ (List.range m).map (u8s g) := by
  rw [List.range_add, List.map_append, List.map_map]
  congr 1
  · exact range_congr (fun j hj => by simp only [u8s, catB]; rw [if_pos hj])
  · exact range_congr (fun j _ => by simp only [Function.comp, u8s, catB]; rw [if_neg (by omega), Nat.add_sub_cancel_left])
theorem moreF_cat {f g : Nat → Nat} (hf : ∀ j, f j < 256) (n m s : Nat) : moreF (catB f n g) (n + m) s = moreF g m (moreF f n s) := by
  have h1 := crun_lt hf (show 4294967295 - s < 4294967296 by omega) n
  unfold moreF
  rw [crun_cat, crun_congr (f := catB f n g) (g := f) _ n (fun j hj => by simp only [catB]; rw [if_pos hj]), crun_congr (f := fun j => catB f n g (n + j)) (g := g) _ m (fun j _ => by simp only [catB]; rw [if_neg (by omega), Nat.add_sub_cancel_left])]
  rw [show 4294967295 - (4294967295 - crun f n (4294967295 - s)) = crun f n (4294967295 - s) by omega]
theorem moreF_none (f : Nat → Nat) {s : Nat} (h : s < 4294967296) : moreF f 0 s = s := by
  unfold moreF
  rw [crun]
  omega
theorem moreF_congr {f g : Nat → Nat} (n s : Nat) (h : ∀ j, j < n → f j = g j) : moreF f n s = moreF g n s := by unfold moreF; rw [crun_congr _ n h]
theorem moreF_other {f g : Nat → Nat} (hf : ∀ j, f j < 256) (hg : ∀ j, g j < 256) {i L s : Nat} (hi : i < L) (h1 : f i ≠ g i) (h2 : ∀ j, j < L → j ≠ i → j ≠ i + 1 → f j = g j) : moreF f L s ≠ moreF g L s := by
  have hn : 4294967295 - s < 4294967296 := by omega
  have h5 := crun_other hf hg hn hi h1 h2
  have h6 := crun_lt hf hn L
  have h7 := crun_lt hg hn L
  unfold moreF
  omega
theorem moreF_add {f g h : Nat → Nat} (hf : ∀ j, f j < 256) (hg : ∀ j, g j < 256) (hh : ∀ j, h j < 256) (n s : Nat) : moreF (fun j => f j ^^^ g j ^^^ h j) n s = moreF f n s ^^^ moreF g n s ^^^ moreF h n s := by
  have hn : 4294967295 - s < 4294967296 := by omega
  have h6 := crun_lt hf hn n
  have h7 := crun_lt hg hn n
  have h8 := crun_lt hh hn n
  unfold moreF
  rw [crun_xor3, crc_comp h6, crc_comp h7, crc_comp h8, crc_comp (Nat.xor_lt_two_pow (n := 32) (Nat.xor_lt_two_pow (n := 32) h6 h7) h8)]
  generalize crun f n (4294967295 - s) = a
  generalize crun g n (4294967295 - s) = b
  generalize crun h n (4294967295 - s) = c
  generalize 4294967295 = M
  rw [show M ^^^ a ^^^ (M ^^^ b) = a ^^^ b by rw [Nat.xor_comm M a, Nat.xor_assoc, ← Nat.xor_assoc M M b, Nat.xor_self, Nat.zero_xor], Nat.xor_comm M c, ← Nat.xor_assoc (a ^^^ b) c M, Nat.xor_comm (a ^^^ b ^^^ c) M]
/-- a row of one's own, read -/
theorem own_rdX {base e n : Nat} {w : World} {k : Nat → Value} {v : Value} (h : w.ownsRow base e 1 v n ((List.range n).map k)) : ∃ A c, v = .slice A n c ∧ n ≤ c ∧ (A = none → c = 0) ∧ Rd w.heap.size w k A n := by
  rcases h.2 with ⟨rfl, rfl⟩ | ⟨g, cap, cur, rfl, hg, hh, hc, _, hs, ht⟩
  · exact ⟨none, 0, rfl, Nat.le_refl _, fun _ => rfl, Rd.zero⟩
  · have hlt : g < w.heap.size := by
      rcases Nat.lt_or_ge g w.heap.size with hl | hl
      · exact hl
      · rw [Array.getElem?_eq_none hl] at hh; cases hh
    refine ⟨_, cap, rfl, hc, fun e => (by cases e), fun hn => ⟨_, rfl, by simp; omega, hlt, fun j hj => ?_⟩⟩
    have h1 := h.cells (g := g) rfl j (k j) (by rw [List.getElem?_map, List.getElem?_range (by omega)]; rfl)
    exact h1
/-- .. as a row of which cells are written -/
theorem own_rowX {base e n : Nat} {w : World} {k : Nat → Value} {v : Value} (h : w.ownsRow base e 1 v n ((List.range n).map k)) (hn : 0 < n) :
    ∃ g c K, v = .slice (some ⟨g, 0, none⟩) n c ∧ base ≤ g ∧ n ≤ c ∧ w.rowIs g e c K ∧ ∀ j, j < n → K j = k j := by
  rcases h.2 with ⟨_, rfl⟩ | ⟨g, cap, cur, rfl, hg, hh, hc, _, hs, ht⟩
  · omega
  · refine ⟨g, cap, fun j => (cur[j]?).getD nilS, rfl, hg, hc, ⟨cur, hh, by omega, fun i hi => ?_⟩, fun j hj => ?_⟩
    · show cur[i]? = some ((cur[i]?).getD nilS)
      rw [Array.getElem?_eq_getElem (by omega)]; rfl
    · have h1 : (cur.toList.take (n * 1))[j]? = some (k j) := by rw [ht, List.getElem?_map, List.getElem?_range (by omega)]; rfl
      rw [List.getElem?_take, if_pos (by omega), Array.getElem?_toList] at h1
      show (cur[j]?).getD nilS = k j
      rw [h1]; rfl
/-- bytes with one otherwise, or two beside each other -/
def oddB (f : Nat → Nat) (i p q : Nat) : Nat → Nat := fun j => if j = i then f i ^^^ p else if j = i + 1 then f (i + 1) ^^^ q else f j
theorem oddB_lt {f : Nat → Nat} (hf : ∀ j, f j < 256) {i p q : Nat} (hp : p < 256) (hq : q < 256) (j : Nat) : oddB f i p q j < 256 := by
  unfold oddB
  split
  · exact Nat.xor_lt_two_pow (n := 8) (hf _) hp
  · split
    · exact Nat.xor_lt_two_pow (n := 8) (hf _) hq
    · exact hf _
theorem xor_ne {a p : Nat} (h : p ≠ 0) : a ^^^ p ≠ a := fun e => h (by
  have h5 := congrArg (a ^^^ ·) e
  simp only [← Nat.xor_assoc, Nat.xor_self, Nat.zero_xor] at h5
  exact h5)
theorem oddB_sum {f : Nat → Nat} (hf : ∀ j, f j < 256) {i n p q : Nat} (hi : i < n) (hp : p < 256) (hq : q < 256) (h0 : p ≠ 0) : moreF (oddB f i p q) n 0 ≠ moreF f n 0 :=
  moreF_other (oddB_lt hf hp hq) hf hi (by unfold oddB; rw [if_pos rfl]; exact xor_ne h0) (fun j _ h1 h2 => by unfold oddB; rw [if_neg h1, if_neg h2])
abbrev T2b : Nat := 34
/-- the least of four -/
theorem run_min4 (ts : Array TypeId) (t : TypeId) (x y z u : Int) (w : World) : (Builtin.min_ ts t #[.int .i64 x, .int .i64 y, .int .i64 z, .int .i64 u]).run Tryd.prog w = .ok (.int .i64 (if u < (if z < (if y < x then y else x) then z else (if y < x then y else x)) then u else (if z < (if y < x then y else x) then z else (if y < x then y else x)))) w := by
  simp [Builtin.min_, Builtin.min2]
theorem elemB13 : Tryd.prog.elem TBs = TB := by kernel_rfl
theorem sizeB13 (w : World) : (sizeOf TB).run Tryd.prog w = .ok 1 w := by kernel_rfl
/-- 's[:k]' of bytes -/
theorem run_headB13 (A : Option Addr) (q c k : Nat) (h : k ≤ c) (w : World) : (Instr.slice TBs (.slice A q c) none (some (.int .i64 (k : Int))) none).run Tryd.prog w = .ok (.slice A k c) w := by
  have hu : Tryd.prog.underlying TBs = some (.slice (Tryd.prog.elem TBs)) := by rw [elemB13]; exact Tryd.underlying23
  rw [run_slice_h w TBs A q c hu .i64 (k : Int) (by omega) (by omega), elemB13, sizeB13]
  cases A <;> simp [Result.andThen, sliced, Addr.add]
theorem run_headAtB13 (A : Option Addr) (q c k : Nat) (h : k ≤ c) (w : World) : (Instr.sliceAt TBs (.slice A q c) none (some (.int .i64 (k : Int))) none).run Tryd.prog w = .ok (.slice A k c) w := by
  have hu : Tryd.prog.underlying TBs = some (.slice (Tryd.prog.elem TBs)) := by rw [elemB13]; exact Tryd.underlying23
  rw [run_sliceAt_slice w TBs _ _ _ _ hu, run_headB13 A q c k h]
theorem wrap32_n (n : Nat) (h : n < 4294967296) : IntKind.u32.wrap (n : Int) = (n : Int) := by simp [IntKind.wrap, IntKind.signed, IntKind.bits]; omega
/-- the room of bytes that came in, as their datum has it -/
theorem bytes_cap {H : Type} {enc : TypeId × Value → H} {W : World} {base : Nat} {held : Bool} {fuel : Nat} {a : Option Addr} {len cap : Nat} {d : DataW H} {ps : List MemPlace}
    (h : DataW.trod enc Tryd.prog W base (fun _ => true) held fuel TBs [.slice a len cap] = some (d, ps)) : cap = 0 ∨ ∃ es sp, d = .slice es sp ∧ es.length + sp.length = cap := by
  rcases open_ints Tryd.underlying23 Tryd.underlying5 (by kernel_rfl) h with ⟨hcs, _⟩ | ⟨ad, l, c, zs, hcs, _, hl, hm, hz, hx, _⟩
  · simp at hcs
    exact Or.inl hcs.2.2
  · simp at hcs
    obtain ⟨rfl, rfl, rfl⟩ := hcs
    simp at hx hz
    refine Or.inr ⟨_, _, hx.1, ?_⟩
    simp [lits]
    omega
end Go.Proofs.YtbhpfdikkknijaaDoor
