/- Layer 6's own first test, and how its laws choose a field; any rows of the identity and ISA-L's behind it. The contract of gambrelref06's Chosen. -/
import Derived.Test.YtdidlfeolbcblaaGreatDoorGxo
import Derived.Test.YtdidlfeolbcblaaGreatDoorGxl
import Derived.Test.YtdidlfeolbcblaaGreatDoorGxm
import Derived.Test.YtdidlfeolbcblaaGreatDoorGxk

namespace Go.Proofs.YtdidlfeolbcblaaGreatDoor
open Go.RowKit

/-- the fields of 8 and of 16 bits -/
def qS : FP := ⟨285, M.prim285⟩
def qL : FP := ⟨69643, M.prim69643⟩

/-- rows behind rows -/
def joinE {q : FP} (k : Nat) (A B : Nat → Nat → El q) (r j : Nat) : El q := if r < k then A r j else B (r - k) j
theorem two_pow {q : FP} (h2 : (2 : Int) ≤ M.ord q.p) (i : Nat) : (ep (toEl q 2) i).val = M.pw 2 q.p i := by
  rw [ep_val]
  have := toEl_val (q := q) (a := 2) ⟨by omega, h2⟩
  rw [show (toEl q 2).val = 2 by omega]
theorem isal_any {q : FP} {k m : Nat} (hk : (k : Int) ≤ M.ord q.p) (h2 : (2 : Int) ≤ M.ord q.p) (hm : m ≤ 3) (f : Nat → Nat) (hf : ∀ i, i < k → f i < k + m) (hu : ∀ i j, i < k → j < k → f i = f j → i = j) :
    rk k (fun i j => joinE k dl (isalE q) (f i) j) k = k := by
  refine mds_of (N := k + m) (E := joinE k dl (isalE q)) (fun c hc => powers_few (x := fun j => ep (toEl q 2) j) hm (fun j _ h => ?_) (fun i j hi hj h => ?_) ?_) f hf hu
  · have := (M.pw_range q.prim j).1
    rw [← two_pow h2 j, h] at this
    have e := El.zero_val (q := q)
    omega
  · have e := congrArg El.val h
    rw [two_pow h2, two_pow h2] at e
    rcases Nat.lt_trichotomy i j with h1 | h1 | h1
    · exact absurd e (M.pw_inj q.prim h1 (by omega))
    · exact h1
    · exact absurd e.symm (M.pw_inj q.prim h1 (by omega))
  · rw [cnt_add] at hc
    have e1 : cnt (fun r => decide (su k (fun j => c j * joinE k dl (isalE q) r j) = 0)) k = cnt (fun j => decide (c j = 0)) k := cnt_congr (fun r hr => by
      have : su k (fun j => c j * joinE k dl (isalE q) r j) = c r := by
        rw [su_one (fun j => c j * joinE k dl (isalE q) r j) hr (fun i hi hne => by rw [joinE, if_pos hr, dl_ne (fun e => hne e.symm), El.mul_zero]), joinE, if_pos hr, dl_self, El.mul_one]
      rw [this])
    have e2 : cnt (fun t => decide (su k (fun j => c j * joinE k dl (isalE q) (k + t) j) = 0)) m = cnt (fun t => decide (su k (fun j => c j * ep (ep (toEl q 2) j) t) = 0)) m := cnt_congr (fun t ht => by
      have : su k (fun j => c j * joinE k dl (isalE q) (k + t) j) = su k (fun j => c j * ep (ep (toEl q 2) j) t) := su_congr (fun j _ => by
        rw [joinE, if_neg (by omega), show k + t - k = t by omega, isalE, ep_turn])
      rw [this])
    rw [e1, e2] at hc
    have := cnt_not (fun j => decide (c j = 0)) k
    omega

/-- a field is chosen -/
def FieldSaid6 (w : World) (e : Ending) (w' : World) : Prop :=
  ∃ (q : FP) (wd b : Nat), e = .returned (.tuple #[.pointer (some ⟨b, 0, none⟩), .int .i64 wd, .int .u32 q.p]) ∧ Fld q.p b wd w' ∧ w.heap.size ≤ b ∧ Below w.heap.size w w'

/-- three rows of two numbers -/
def m32 (x y z u v s : Int) (r j : Nat) : Int := if r = 0 then (if j = 0 then x else y) else if r = 1 then (if j = 0 then z else u) else (if j = 0 then v else s)
theorem mat32 (b : Nat) (x y z u v s : Int) (w W : World) (hb : b < w.heap.size)
    (hW : (((w.alloc (.cells #[.int .i64 x, .int .i64 y] TI)).alloc (.cells #[.int .i64 z, .int .i64 u] TI)).alloc (.cells #[.int .i64 v, .int .i64 s] TI)).alloc (.cells #[.slice (some ⟨w.heap.size, 0, none⟩) 2 2, .slice (some ⟨w.heap.size + 1, 0, none⟩) 2 2, .slice (some ⟨w.heap.size + 1 + 1, 0, none⟩) 2 2] TIs) = W) :
    Mx b W (m32 x y z u v s) (fun _ => 2) (some ⟨w.heap.size + 1 + 1 + 1, 0, none⟩) 3 ∧ Below w.heap.size w W := by
  have r1 := row_at (w := w) #[.int .i64 x, .int .i64 y] TI (i64s (m32 x y z u v s 0)) _ rfl (fun i hi => by
    simp at hi
    match i, hi with
    | 0, _ => rfl
    | 1, _ => rfl)
  have r2 := row_at (w := w.alloc (.cells #[.int .i64 x, .int .i64 y] TI)) #[.int .i64 z, .int .i64 u] TI (i64s (m32 x y z u v s 1)) (w.heap.size + 1) (by simp) (fun i hi => by
    simp at hi
    match i, hi with
    | 0, _ => rfl
    | 1, _ => rfl)
  have r3 := row_at (w := (w.alloc (.cells #[.int .i64 x, .int .i64 y] TI)).alloc (.cells #[.int .i64 z, .int .i64 u] TI)) #[.int .i64 v, .int .i64 s] TI (i64s (m32 x y z u v s 2)) (w.heap.size + 1 + 1) (by simp) (fun i hi => by
    simp at hi
    match i, hi with
    | 0, _ => rfl
    | 1, _ => rfl)
  have r4 := row_at (w := ((w.alloc (.cells #[.int .i64 x, .int .i64 y] TI)).alloc (.cells #[.int .i64 z, .int .i64 u] TI)).alloc (.cells #[.int .i64 v, .int .i64 s] TI)) #[.slice (some ⟨w.heap.size, 0, none⟩) 2 2, .slice (some ⟨w.heap.size + 1, 0, none⟩) 2 2, .slice (some ⟨w.heap.size + 1 + 1, 0, none⟩) 2 2] TIs (slis (fun r => if r = 0 then some ⟨w.heap.size, 0, none⟩ else if r = 1 then some ⟨w.heap.size + 1, 0, none⟩ else some ⟨w.heap.size + 1 + 1, 0, none⟩) (fun _ => 2) (fun _ => 2)) (w.heap.size + 1 + 1 + 1) (by simp) (fun i hi => by
    simp at hi
    match i, hi with
    | 0, _ => rfl
    | 1, _ => rfl
    | 2, _ => rfl)
  subst hW
  refine ⟨⟨_, _, Rd.of_row r4 (by omega) (by simp), fun r hr => ?_⟩, ((((below_alloc w _).alloc (by simp) _).alloc (by simp; omega) _).alloc (by simp; omega) _)⟩
  match r, hr with
  | 0, _ => exact Rd.of_row (((r1.alloc _).alloc _).alloc _) (by omega) (by simp)
  | 1, _ => exact Rd.of_row ((r2.alloc _).alloc _) (by omega) (by simp)
  | 2, _ => exact Rd.of_row (r3.alloc _) (by omega) (by simp)

theorem lone {q : FP} : ((1 : El q).val : Int) = 1 := rfl
theorem awake_isal {r j : Nat} (hr : r < 2) (hj : j < 2) : ivs (isalE qS) r j = m22 1 1 1 2 r j := by
  have ho : M.ord qS.p = 255 := ord285
  have h2 : ((toEl qS 2).val : Int) = 2 := toEl_val ⟨by omega, by omega⟩
  match r, hr, j, hj with
  | 0, _, 0, _ => rfl
  | 0, _, 1, _ => show ((ep (1 : El qS) 1).val : Int) = 1; rw [ep, ep, El.one_mul]; rfl
  | 1, _, 0, _ => rfl
  | 1, _, 1, _ => show ((ep (ep (toEl qS 2) 1) 1).val : Int) = 2; rw [ep, ep, El.one_mul, ep, ep, El.one_mul]; exact h2
theorem awake_raw {r j : Nat} (hr : r < 3) (hj : j < 2) : ivs (rawE qS) r j = m32 1 0 1 1 1 2 r j := by
  have ho : M.ord qS.p = 255 := ord285
  have h : ∀ i : Nat, i < 3 → ((ep (toEl qS (i : Int)) 1).val : Int) = i := fun i hi => by
    rw [ep, ep, El.one_mul]
    exact toEl_val ⟨by omega, by omega⟩
  match r, hr, j, hj with
  | 0, _, 0, _ => rfl
  | 0, _, 1, _ => exact h 0 (by omega)
  | 1, _, 0, _ => rfl
  | 1, _, 1, _ => exact h 1 (by omega)
  | 2, _, 0, _ => rfl
  | 2, _, 1, _ => exact h 2 (by omega)
end Go.Proofs.YtdidlfeolbcblaaGreatDoor

namespace Go.Proofs.YtdidlfeolbcblaaGreatDoor
open Go.RowKit

abbrev TBo : Nat := 4
abbrev TBos : Nat := 90
theorem infoBo : (Tryz.prog.info? TBo).map (fun i => (i.zero, i.size, i.bytes)) = some (some (.bool false), 1, 1) := by kernel_rfl
theorem underBo : Tryz.prog.underlying TBos = some (.slice TBo) := Tryz.underlying90

/-- the list of those that are chosen, and what was seen -/
structure Cho (l : Nat → Int) (mask k : Nat) (v : Value) (w wr : World) : Prop where
  own : wr.ownsRow (w.heap.size + 1) TI 1 v k ((List.range k).map (i64s l))
  seen : wr.rowIs w.heap.size TBo 20 (fun x => .bool (mask.testBit x))
  bel : Below w.heap.size w wr
  size : w.heap.size + 1 ≤ wr.heap.size
section
variable {l : Nat → Int} {mask k : Nat} {v : Value} {w wr w1 : World}
theorem Cho.start (l : Nat → Int) (w : World) : Cho l 0 0 nilS w (w.alloc (.cells (madeCells #[.bool false] 20) TBo)) :=
  ⟨World.ownsRow_nil _ _ _ _, (World.rowIs_made w (.bool false) 20 TBo).congr (fun x _ => by rw [Nat.zero_testBit]), below_alloc _ _, by simp⟩
theorem Cho.app {v' : Value} {o : Obj} (h : Cho l mask k v w wr) (ho : w1.ownsRow (w.heap.size + 1) TI 1 v' (k + 1) ((List.range k).map (i64s l) ++ [i64s l k])) (hg : (wr.alloc o).grownBy w1 v.ownBlock) : Cho l mask (k + 1) v' w w1 := by
  have hs := h.size
  refine ⟨by rw [range_snoc]; exact ho, (h.seen.alloc o).of_block (hg.block _ ?_ ?_), (h.bel.alloc h.bel.size o).grown hg (by simp; have := h.bel.size; omega) (fun q hq => ?_), ?_⟩
  · simp; omega
  · intro e
    have := (h.own.lt _ e.symm).1
    omega
  · have := (h.own.lt q hq).1
    omega
  · have := hg.size
    simp at this
    omega
theorem Cho.set (h : Cho l mask k v w wr) (a : Nat) : Cho l (mask ||| 1 <<< a) k v w (wr.setCell ⟨w.heap.size, a, none⟩ (.bool true)) := by
  refine ⟨own_turned h.own (Nat.lt_succ_self _) ((Turned.refl w.heap.size wr).setCell a _), (h.seen.set a _).congr (fun x _ => ?_), h.bel.setCell (p := ⟨w.heap.size, a, none⟩) (Nat.le_refl _) _, ?_⟩
  · rw [Nat.testBit_or, Nat.one_shiftLeft, Nat.testBit_two_pow]
    by_cases e : x = a
    · rw [if_pos e, e]; simp
    · rw [if_neg e]
      have : decide (a = x) = false := by simp; omega
      rw [this, Bool.or_false]
  · have := h.size
    simp [World.setCell]
    omega
theorem Cho.drew (h : Cho l mask k v w wr) : Cho l mask k v w wr.drew := ⟨h.own, h.seen, h.bel.drew, h.size⟩
end

def ChoAt (n s f many : Nat) (w : World) (s10 s12 s13 : Value) (wr : World) : Prop :=
  ∃ k : Nat, k ≤ many ∧ s13 = .int .i64 k ∧ s12 = .int .i64 (chAt n s f k) ∧ Cho (fun j => (chAt n s f j : Int)) (chM n s f k) k s10 w wr

set_option maxRecDepth 100000 in
set_option maxHeartbeats 2000000 in
theorem chosen11 (n many f s : Nat) (hn : 1 ≤ n) (hn2 : n ≤ 20) (hm : many ≤ n) (hf : f ≤ 100000) (hs : s ≤ 100000) (w : World) :
    Calls Tryz.prog 24 #[.int .i64 n, .int .i64 many, .int .i64 f, .int .i64 s] w fun e w' => ∃ A c, e = .returned (.tuple #[.slice A many c, .bool true]) ∧ (∀ b, b < w.heap.size → Rd b w' (i64s (fun j => (chAt n s f j : Int))) A many) ∧ Below w.heap.size w w' := by
  obtain ⟨j0, hj, hy0, hy1, hy2⟩ := info_parts infoI
  have hmk : ∀ w : World, (Instr.makeSlice TBos (.int .i64 20) (.int .i64 20)).run Tryz.prog w = .ok (.slice (some ⟨w.heap.size, 0, none⟩) 20 20) (w.alloc (.cells (madeCells #[.bool false] 20) TBo)) := run_make_row' (P := Tryz.prog) TBos TBo (.bool false) 1 underBo infoBo rfl .i64 .i64 20 (by omega) (by omega)
  have hz : ¬ (n : Int) = 0 := by omega
  have HA0 := Lib.hid (show ((f : Int) % (n : Int)) = ((chAt n s f 0 : Nat) : Int) from by show _ = ((f % n : Nat) : Int); omega)
  go_enter Tryz.func24, Tryz.ntmps24
  go_wp2_with fail
  go_loopw [10, 12, 13] (fun s10 s12 s13 wr => ChoAt n s f many w s10 s12 s13 wr) (fun _ _ s13 _ => many - (intOf s13).toNat)
  case atStart => exact ⟨0, Nat.zero_le _, rfl, by rw [HA0.out], Cho.start _ w⟩
  case round =>
    clear HA0
    obtain ⟨k, hk, rfl, rfl, hC⟩ := hrel
    obtain ⟨A, c, rfl, hkc, _⟩ := Rd.of_own (b := 0) hC.own (by omega)
    have HC := Lib.hid hC
    have hsz := hC.size
    by_cases hlt : k < many
    · have hd1 : decide ((k : Int) < 2 * (n : Int)) = true := by simp; omega
      have hd2 : decide ((k : Int) < (many : Int)) = true := by simp; omega
      have ha := chAt_lt hn s f k
      have HN := Lib.hid (ch_new hn hn2 s f (show k < n by omega))
      have c1 := hC.seen.cell (i := chAt n s f k) (by omega)
      rw [HN.out] at c1
      have HV := Lib.hid (show i64s (fun j => (chAt n s f j : Int)) k = .int .i64 (chAt n s f k) from rfl)
      obtain ⟨a, hae⟩ : ∃ a, chAt n s f k = a := ⟨_, rfl⟩
      rw [hae] at ha c1 HV ⊢
      clear hC
      go_wp2_with (at_builtin; refine wpList_append_own _ rfl _ _ TIs rfl (w.heap.size + 1) TI j0 (.int .i64 0) 1 8 underI hj hy0 hy1 hy2 rfl (by decide) _ _ _ rfl (HC.out.own.alloc _) ⟨wr.heap.size, 0, none⟩ 1 1 [i64s (fun j => (chAt n s f j : Int)) k] rfl rfl (news_one HV.out.symm) (one_i64 _) (by unfold maxLen; omega) (by omega) (by simp; omega) ?_)
      intro v' w1 hown' hgrow _
      have hC1 := HC.out.app hown' hgrow
      have c2 := hC1.seen.cell (i := a) (by omega)
      have f2 := hC1.seen.frozen a
      have hC2 := hC1.set a
      rw [← hae, ← chM_succ, hae] at hC2
      have HS := Lib.hid (chAt_succ n s f k)
      rw [hae] at HS
      obtain ⟨d, hd⟩ : ∃ d, (a + s) % n = d := ⟨_, rfl⟩
      have hdn : d < n := by rw [← hd]; exact Nat.mod_lt _ (by omega)
      have hmod : ((a : Int) + (s : Int)) % (n : Int) = (d : Int) := by rw [← hd, Int.natCast_emod, Int.natCast_add]
      rw [hd] at HS
      have c3 := hC2.seen.cell (i := d) (by omega)
      have HC2 := Lib.hid hC2
      clear hC1 hC2 hown' hgrow HC HV c1 HN hd hae
      cases hbit : (chM n s f (k + 1)).testBit d
      · rw [hbit] at c3
        rw [hbit, if_neg (by simp)] at HS
        clear hbit
        go_wp2_with fail
        exact ⟨⟨k + 1, hlt, by go_num, by rw [HS.out, hmod], HC2.out⟩, by simp [intOf]; omega⟩
      · rw [hbit] at c3
        rw [hbit, if_pos rfl] at HS
        obtain ⟨d2, hd2⟩ : ∃ d2, (d + 1) % n = d2 := ⟨_, rfl⟩
        have hmod2 : ((d : Int) + 1) % (n : Int) = (d2 : Int) := by rw [← hd2, Int.natCast_emod, Int.natCast_add]; rfl
        rw [hd2] at HS
        clear hbit hd2
        go_wp2_with fail
        exact ⟨⟨k + 1, hlt, by go_num, by rw [HS.out, hmod2], HC2.out⟩, by simp [intOf]; omega⟩
    · obtain rfl : k = many := by omega
      have hd1 : decide ((k : Int) < 2 * (n : Int)) = true := by simp; omega
      have hd2 : decide ((k : Int) < (k : Int)) = false := by simp
      have HE := Lib.hid (show (∀ b, b < w.heap.size → Rd b wr (i64s (fun j => (chAt n s f j : Int))) A k) ∧ Below w.heap.size w wr from ⟨fun b hb => by
        obtain ⟨A', c', e', _, h⟩ := Rd.of_own (b := b) hC.own (by omega)
        injection e' with e'
        subst e'
        exact h, hC.bel⟩)
      clear hC
      go_wp2_with fail
      go_ret2
      exact ⟨A, c, rfl, HE.out⟩
end Go.Proofs.YtdidlfeolbcblaaGreatDoor
