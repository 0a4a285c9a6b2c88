/- Contracts of package region: areAlike, Clone, sum and Add. -/
import Derived.Test.YtjpjgkagebckpaaRgb
import Derived.Lib.SliceRun
import Derived.Laws.BitsAllLaws
namespace Go.Proofs.Ytjpjgkagebckpaa
open Go.RowKit

/-- are the first n of the lengths all n0? -/
def alike (n0 : Nat) (Ls : Nat → Nat) (n : Nat) : Bool := (List.range n).all (fun j => Ls j == n0)
theorem alike_iff {n0 : Nat} {Ls : Nat → Nat} {n : Nat} : alike n0 Ls n = true ↔ ∀ j, j < n → Ls j = n0 := by simp [alike]
theorem alike_no {n0 : Nat} {Ls : Nat → Nat} {n k : Nat} (hk : k < n) (h : Ls k ≠ n0) : alike n0 Ls n = false := by
  cases e : alike n0 Ls n
  · rfl
  · exact absurd (alike_iff.1 e k hk) h
abbrev slis (As : Nat → Option Addr) (Ls Cs : Nat → Nat) : Nat → Value := fun j => .slice (As j) (Ls j) (Cs j)

set_option maxRecDepth 100000 in
set_option maxHeartbeats 1000000 in
theorem alike32 (b : Nat) (A0 : Option Addr) (n0 c0 : Nat) (As : Nat → Option Addr) (Ls Cs : Nat → Nat) (A : Option Addr) (n c : Nat) (hn : n ≤ 100000) (w : World) (hr : Rd b w (slis As Ls Cs) A n) :
    Calls Try.prog 32 #[.slice A0 n0 c0, .slice A n c] w fun e w' => e = .returned (.bool (alike n0 Ls n)) ∧ w = w' := by
  have HR := Lib.hid hr
  clear hr
  obtain ⟨t, ht⟩ : ∃ t, alike n0 Ls n = t := ⟨_, rfl⟩
  rw [ht]
  have HT := Lib.hid ht
  clear ht
  go_enter Try.func32, Try.ntmps32
  go_wp2_with fail
  go_loop [9] (fun s9 => ∃ k : Nat, k ≤ n ∧ s9 = .int .i64 k ∧ Hid (∀ j, j < k → Ls j = n0)) (fun s9 => n - (intOf s9).toNat)
  case atStart => exact ⟨0, Nat.zero_le _, rfl, Lib.hid (fun j hj => absurd hj (by omega))⟩
  case round =>
    obtain ⟨k, hk, rfl, hall⟩ := hrel
    by_cases hlt : k < n
    · obtain ⟨ad, rfl, hcell⟩ := HR.out.at_ hlt
      simp only [slis] at hcell
      by_cases he : Ls k = n0
      · have hne : (((Ls k : Nat) : Int) != ((n0 : Nat) : Int)) = false := by simp [he]
        have HE := Lib.hid he
        clear he
        go_wp2_with fail
        exact ⟨⟨k + 1, hlt, by go_num, Lib.hid (fun j hj => (Nat.lt_succ_iff_lt_or_eq.1 hj).elim (fun h => hall.out j h) (fun h => h ▸ HE.out))⟩, by simp [intOf]; omega⟩
      · have hne : (((Ls k : Nat) : Int) != ((n0 : Nat) : Int)) = true := by simp; omega
        have hf := alike_no hlt he
        rw [HT.out] at hf
        clear he
        go_wp2_with fail
        go_ret
        exact ⟨rfl, rfl⟩
    · obtain rfl : k = n := by omega
      have hf := alike_iff.2 hall.out
      rw [HT.out] at hf
      go_wp2_with fail
      go_ret
      exact ⟨rfl, rfl⟩

/-- a slice of bytes of the call's own: it may be written -/
def Own (H : Nat) (w : World) (k : Nat → Value) (A : Option Addr) (n c : Nat) : Prop :=
  n ≤ c ∧ (0 < n → ∃ g K, A = some ⟨g, 0, none⟩ ∧ H ≤ g ∧ w.rowIs g TB c K ∧ ∀ j, j < n → K j = k j)

theorem Own.of_own {H n : Nat} {w : World} {k : Nat → Value} {v : Value} (h : w.ownsRow H TB 1 v n ((List.range n).map k)) : ∃ A c, v = .slice A n c ∧ Own H w k A n c := by
  rcases h.2 with ⟨rfl, rfl⟩ | ⟨g, cap, cur, rfl, hg, hh, hc, _, hs, ht⟩
  · exact ⟨none, 0, rfl, Nat.le_refl _, fun h => absurd h (by omega)⟩
  · refine ⟨_, cap, rfl, hc, fun hn => ⟨g, fun j => (cur[j]?).getD nilS, rfl, hg, ⟨cur, hh, by omega, fun i hi => ?_⟩, fun j hj => ?_⟩⟩
    · show cur[i]? = some ((cur[i]?).getD nilS)
      rw [Array.getElem?_eq_getElem (by omega)]; rfl
    · have h1 : (cur.toList.take (n * 1))[j]? = some (k j) := by rw [ht, List.getElem?_map, List.getElem?_range (by omega)]; rfl
      rw [List.getElem?_take, if_pos (by omega), Array.getElem?_toList] at h1
      show (cur[j]?).getD nilS = k j
      rw [h1]; rfl
theorem Own.rd {b H n c : Nat} {w : World} {k : Nat → Value} {A : Option Addr} (h : Own H w k A n c) (hb : b < H) : Rd b w k A n := fun hn => by
  obtain ⟨g, K, rfl, hg, hr, he⟩ := h.2 hn
  exact ((Rd.of_row (b := b) hr (by omega) h.1).congr he) hn
theorem Own.congr {H n c : Nat} {w : World} {k k' : Nat → Value} {A : Option Addr} (h : Own H w k A n c) (he : ∀ j, j < n → k j = k' j) : Own H w k' A n c :=
  ⟨h.1, fun hn => by
    obtain ⟨g, K, h1, hg, hr, h2⟩ := h.2 hn
    exact ⟨g, K, h1, hg, hr, fun j hj => (h2 j hj).trans (he j hj)⟩⟩

set_option maxRecDepth 100000 in
set_option maxHeartbeats 1000000 in
/-- Clone, of any bytes -/
theorem clone41 (b : Nat) (f : Nat → Nat) (A : Option Addr) (n c : Nat) (hn : n ≤ 100000) (w : World) (hr : Rd b w (u8s f) A n) :
    Calls Try.prog 41 #[.slice A n c] w fun e w' => ∃ A' c', e = .returned (.slice A' n c') ∧ Own w.heap.size w' (u8s f) A' n c' ∧ Below w.heap.size w w' := by
  obtain ⟨i0, hi, hz0, hz1, hz2⟩ := info_parts infoB
  rcases A with _ | ad
  · have h0 : n = 0 := by
      rcases Nat.eq_zero_or_pos n with h | h
      · exact h
      · obtain ⟨_, e, _⟩ := hr h
        cases e
    subst h0
    clear hr
    have hnl := Lib.run_eql_slice_nil (P := Try.prog) w TBs TB none 0 c 0 0 Try.underlying22
    go_enter Try.func41, Try.ntmps41
    go_wp2_with fail
    go_ret
    exact ⟨none, 0, rfl, ⟨Nat.le_refl _, fun h => absurd h (by omega)⟩, Below.refl _ _⟩
  · have HR := Lib.hid hr
    clear hr
    go_enter Try.func41, Try.ntmps41
    have hnl := Lib.run_eql_slice_nil (P := Try.prog) w TBs TB (some ad) n c 0 0 Try.underlying22
    go_wp2_with (at_builtin; refine wpList_append_own _ rfl _ _ TBs rfl w.heap.size TB i0 (.int .u8 0) 1 1 Try.underlying22 hi hz0 hz1 hz2 rfl (by decide) _ 0 [] rfl (World.ownsRow_lit w #[] 0 (Nat.le_refl _) (Nat.zero_le _) rfl) ad n c ((List.range n).map (u8s f)) rfl (by simp) ?c1 ?c2 ?c3 ?c4 ?c5 ?_)
    case c1 =>
      intro j u hj
      have hjn : j < n := by
        rcases Nat.lt_or_ge j n with h | h
        · exact h
        · rw [List.getElem?_eq_none (by simpa using h)] at hj; cases hj
      rw [List.getElem?_map, List.getElem?_range hjn] at hj
      obtain ⟨ad', e, _, hlt, hc⟩ := HR.out (by omega)
      injection e with e
      subst e
      rw [World.cell?_alloc_lt w _ _ (by rw [block_of_add]; exact hlt), hc j hjn, ← hj]; rfl
    case c2 =>
      intro u hu
      obtain ⟨j, _, rfl⟩ := List.mem_map.1 hu
      rfl
    case c3 => unfold maxLen; omega
    case c4 => omega
    case c5 => simp
    intro v' w1 hown hg _
    obtain ⟨A', c', rfl, ho⟩ := Own.of_own hown
    have HE := Lib.hid (And.intro ho (((Below.refl _ w).alloc (Nat.le_refl _) _).grown hg (by simp) (fun q h => by simp [Value.ownBlock] at h; omega)))
    clear hown hg ho hnl
    go_wp2_with fail
    go_ret
    exact ⟨A', c', rfl, HE.out⟩

/-- bytes added up -/
def sumB (f : Nat → Nat) (F : Nat → Nat → Nat) : Nat → Nat → Nat
  | 0, i => f i
  | r + 1, i => sumB f F r i ^^^ F r i
theorem sumB_lt {f : Nat → Nat} {F : Nat → Nat → Nat} (hf : ∀ j, f j < 256) (hF : ∀ r j, F r j < 256) : ∀ r i, sumB f F r i < 256
  | 0, i => hf i
  | r + 1, i => Nat.xor_lt_two_pow (n := 8) (sumB_lt hf hF r i) (hF r i)

/-- in sum's loop over the rows -/
def SumAt (m n c : Nat) (A : Option Addr) (f : Nat → Nat) (F : Nat → Nat → Nat) (w : World) (s14 : Value) (wr : World) : Prop :=
  ∃ r : Nat, r ≤ m ∧ s14 = .int .i64 r ∧ Own w.heap.size wr (u8s (sumB f F r)) A n c ∧ Below w.heap.size w wr
/-- in its loop over the bytes -/
def SumIn (r n c : Nat) (A : Option Addr) (f : Nat → Nat) (F : Nat → Nat → Nat) (w : World) (s20 : Value) (wr : World) : Prop :=
  ∃ i : Nat, i ≤ n ∧ s20 = .int .i64 i ∧ Own w.heap.size wr (u8s (fun j => if j < i then sumB f F (r + 1) j else sumB f F r j)) A n c ∧ Below w.heap.size w wr

/-- what is told of bytes -/
def BytesTold (b n : Nat) (k : Nat → Nat) (w : World) (v : Value) (w' : World) : Prop := ∃ A c, v = .slice A n c ∧ n ≤ c ∧ Rd b w' (u8s k) A n ∧ Below w.heap.size w w'

theorem sumIn_step {r n c i g : Nat} {f : Nat → Nat} {F : Nat → Nat → Nat} {w wr : World} {K : Nat → Value} (hi : i < n) (hn : n ≤ c) (hg : w.heap.size ≤ g) (hr : wr.rowIs g TB c K)
    (hK : ∀ j, j < n → K j = u8s (fun j => if j < i then sumB f F (r + 1) j else sumB f F r j) j) (hb : Below w.heap.size w wr) {v : Value} (hv : v = .int .u8 (sumB f F r i ^^^ F r i : Nat)) :
    SumIn r n c (some ⟨g, 0, none⟩) f F w (.int .i64 (i + 1 : Nat)) (wr.setCell ⟨g, i, none⟩ v) := by
  subst hv
  refine ⟨i + 1, hi, rfl, ⟨hn, fun _ => ⟨g, _, rfl, hg, hr.set i _, fun j hj => ?_⟩⟩, hb.setCell (p := ⟨g, i, none⟩) hg _⟩
  show (if j = i then _ else K j) = _
  rw [hK j hj]
  rcases Nat.lt_trichotomy j i with h | h | h
  · rw [if_neg (by omega)]; simp only [u8s]; rw [if_pos h, if_pos (by omega)]
  · subst h; rw [if_pos rfl]; simp only [u8s]; rw [if_pos (by omega)]; rfl
  · rw [if_neg (by omega)]; simp only [u8s]; rw [if_neg (by omega), if_neg (by omega)]

set_option maxRecDepth 100000 in
set_option maxHeartbeats 1000000 in
theorem sum33 (b : Nat) (f : Nat → Nat) (hf : ∀ j, f j < 256) (F : Nat → Nat → Nat) (hF : ∀ r j, F r j < 256) (A0 : Option Addr) (n c0 : Nat) (hn : n ≤ 100000) (As : Nat → Option Addr) (Ls Cs : Nat → Nat) (A : Option Addr) (m c : Nat) (hm : m ≤ 100000) (w : World) (hbw : b < w.heap.size)
    (hr0 : Rd b w (u8s f) A0 n) (hr : Rd b w (slis As Ls Cs) A m) (hrs : ∀ r, r < m → Ls r = n ∧ Rd b w (u8s (F r)) (As r) n) :
    Calls Try.prog 33 #[.slice A0 n c0, .slice A m c] w fun e w' => ∃ v, e = .returned v ∧ BytesTold b n (sumB f F m) w v w' := by
  have HR := Lib.hid hr
  have HRS := Lib.hid hrs
  clear hr hrs
  go_enter Try.func33, Try.ntmps33
  go_wp2_with fail
  refine (clone41 b f A0 n c0 hn _ hr0).mono ?_
  rintro e w1 ⟨A', c', rfl, ho, hb1⟩
  have HST := Lib.hid (show SumAt m n c' A' f F w (.int .i64 0) w1 from ⟨0, Nat.zero_le _, rfl, ho, hb1⟩)
  clear ho hb1 hr0
  go_wp2_with fail
  go_loopw [14] (fun s14 wr => SumAt m n c' A' f F w s14 wr) (fun s14 _ => m - (intOf s14).toNat)
  case atStart => exact HST.out
  case round =>
    clear HST
    obtain ⟨r, hrm, rfl, ho, hb⟩ := hrel
    by_cases hlt : r < m
    · obtain ⟨ad, rfl, hcell⟩ := (HR.out.below hb).at_ hlt
      obtain ⟨hl, hrr⟩ := HRS.out r hlt
      simp only [slis] at hcell
      rw [hl] at hcell
      have HRR := Lib.hid hrr
      have HO := Lib.hid ho
      have HB := Lib.hid hb
      clear hl hrr ho hb
      go_wp2_with fail
      go_loopw [20] (fun s20 wr => SumIn r n c' A' f F w s20 wr) (fun s20 _ => n - (intOf s20).toNat)
      case atStart => exact ⟨0, Nat.zero_le _, rfl, HO.out.congr (fun j _ => by simp only [u8s]; rw [if_neg (by omega)]), HB.out⟩
      case round =>
        obtain ⟨i, hin, rfl, ho', hb'⟩ := hrel
        by_cases hlt' : i < n
        · obtain ⟨ad2, hA2, hcell2⟩ := (HRR.out.below hb').at_ hlt'
          obtain ⟨g, K, rfl, hgn, hrow, hK⟩ := ho'.2 (by omega)
          have hnc := ho'.1
          have g1 := hrow.cell (i := i) (by omega)
          rw [hK i hlt'] at g1
          simp only [u8s] at g1 hcell2
          rw [if_neg (by omega)] at g1
          have f1 := hrow.frozen i
          have HS := Lib.hid (fun (v : Value) (hv : v = .int .u8 (sumB f F r i ^^^ F r i : Nat)) => sumIn_step (r := r) hlt' hnc hgn hrow hK hb' hv)
          have hx := sumB_lt hf hF r i
          have hy := hF r i
          clear ho' hb' hrow hK
          obtain ⟨x, hxx⟩ : ∃ x, sumB f F r i = x := ⟨_, rfl⟩
          obtain ⟨y, hyy⟩ : ∃ y, F r i = y := ⟨_, rfl⟩
          rw [hxx] at g1 HS hx
          rw [hyy] at hcell2 HS hy
          clear hxx hyy
          rw [hA2]
          go_wp2_with fail
          refine ⟨HS.out _ ?_, by simp [intOf]; omega⟩
          rw [u8_xor_nat x y hx hy]
        · obtain rfl : i = n := by omega
          have HE := Lib.hid (show SumAt m i c' A' f F w (.int .i64 (r + 1 : Nat)) wr from ⟨r + 1, hlt, rfl, ho'.congr (fun j hj => by simp only [u8s]; rw [if_pos hj]), hb'⟩)
          clear ho' hb'
          go_wp2_with fail
          exact ⟨HE.out, by simp [intOf]; omega⟩
    · obtain rfl : r = m := by omega
      have HE := Lib.hid (show BytesTold b n (sumB f F r) w (.slice A' n c') wr from ⟨A', c', rfl, ho.1, ho.rd hbw, hb⟩)
      clear ho hb
      go_wp2_with fail
      go_ret
      exact ⟨_, rfl, HE.out⟩

/-- one row, handed over as rows -/
theorem rd_row {b : Nat} {w : World} (hb : b < w.heap.size) (A : Option Addr) (n c : Nat) : Rd b (w.alloc (.cells #[.slice A n c] TBs)) (slis (fun _ => A) (fun _ => n) (fun _ => c)) (some ⟨w.heap.size, 0, none⟩) 1 := by
  have h := World.rowIs_alloc w #[.slice A n c] TBs (slis (fun _ => A) (fun _ => n) (fun _ => c)) (fun i hi => by
    simp at hi
    subst hi
    rfl)
  exact Rd.of_row h (by omega) (by simp)
theorem below_alloc (w : World) (o : Obj) : Below w.heap.size w (w.alloc o) := (Below.refl _ _).alloc (Nat.le_refl _) _
theorem below_tr {w w1 w2 : World} (h1 : Below w.heap.size w w1) (h2 : Below w1.heap.size w1 w2) : Below w.heap.size w w2 := h1.trans (h2.mono h1.size)
theorem BytesTold.from {b n : Nat} {k : Nat → Nat} {w w1 w' : World} {v : Value} (hb : Below w.heap.size w w1) (h : BytesTold b n k w1 v w') : BytesTold b n k w v w' := by
  obtain ⟨A, c, h1, h2, h3, h4⟩ := h
  exact ⟨A, c, h1, h2, h3, below_tr hb h4⟩

set_option maxRecDepth 100000 in
set_option maxHeartbeats 1000000 in
theorem add_yes (b : Nat) (f g : Nat → Nat) (hf : ∀ j, f j < 256) (hg : ∀ j, g j < 256) (A B : Option Addr) (n ca cb : Nat) (hn : n ≤ 100000) (w : World) (hbw : b < w.heap.size) (ha : Rd b w (u8s f) A n) (hb : Rd b w (u8s g) B n) :
    Calls Try.prog 23 #[.slice A n ca, .slice B n cb] w fun e w' => ∃ v, e = .returned (.tuple #[v, .int .i64 0]) ∧ BytesTold b n (fun i => f i ^^^ g i) w v w' := by
  have HT := Lib.hid (alike_iff.2 (show ∀ j, j < 1 → (fun _ : Nat => n) j = n from fun _ _ => rfl))
  go_enter Try.func23, Try.ntmps23
  go_wp2_with fail
  refine (alike32 b A n ca (fun _ => B) (fun _ => n) (fun _ => cb) _ 1 1 (by omega) _ (rd_row hbw B n cb)).mono ?_
  rintro e w' ⟨rfl, rfl⟩
  rw [HT.out]
  have hB1 := below_alloc w (.cells #[.slice B n cb] TBs)
  obtain ⟨w1, hw1⟩ : ∃ w1, w.alloc (.cells #[.slice B n cb] TBs) = w1 := ⟨_, rfl⟩
  rw [hw1] at hB1 ⊢
  clear hw1
  have HB1 := Lib.hid hB1
  have ha1 := ha.below hB1
  have hb1 := hb.below hB1
  have hbw1 : b < w1.heap.size := Nat.lt_of_lt_of_le hbw hB1.size
  have HA := Lib.hid ha1
  have HBB := Lib.hid hb1
  clear ha hb ha1 hb1 hB1
  go_wp2_with fail
  refine (sum33 b f hf (fun _ => g) (fun _ => hg) A n ca hn (fun _ => B) (fun _ => n) (fun _ => cb) _ 1 1 (by omega) _ (by simp; omega) (HA.out.below (below_alloc _ _)) (rd_row hbw1 B n cb) (fun r _ => ⟨rfl, HBB.out.below (below_alloc _ _)⟩)).mono ?_
  rintro e w2 ⟨v, rfl, hv⟩
  have HE := Lib.hid ((hv.from (below_alloc _ _)).from HB1.out)
  clear hv
  go_wp2_with fail
  go_ret2
  exact ⟨v, rfl, HE.out⟩

set_option maxRecDepth 100000 in
set_option maxHeartbeats 1000000 in
theorem add_no (b : Nat) (A B : Option Addr) (n m ca cb : Nat) (hnm : n ≠ m) (w : World) (hbw : b < w.heap.size) :
    Calls Try.prog 23 #[.slice A n ca, .slice B m cb] w fun e w' => e = .returned (.tuple #[nilS, .int .i64 1]) ∧ Below w.heap.size w w' := by
  have HT := Lib.hid (alike_no (n0 := n) (Ls := fun _ => m) (n := 1) (k := 0) (by omega) (Ne.symm hnm))
  go_enter Try.func23, Try.ntmps23
  go_wp2_with fail
  refine (alike32 b A n ca (fun _ => B) (fun _ => m) (fun _ => cb) _ 1 1 (by omega) _ (rd_row hbw B m cb)).mono ?_
  rintro e w' ⟨rfl, rfl⟩
  rw [HT.out]
  go_wp2_with fail
  go_ret2
  exact ⟨rfl, below_alloc _ _⟩
end Go.Proofs.Ytjpjgkagebckpaa
