/- Contracts of package region: areAlike, Clone, sum and Add. -/
import Derived.Test.YtgbipbcejjlpiaaGreatDoorRgb
import Derived.Lib.SliceRun
import Derived.Laws.BitsAllLaws
namespace Go.Proofs.YtgbipbcejjlpiaaGreatDoor
open Go.RowKit

/-- are the first n of the lengths all n0? -/
def alike (n0 : Nat) (Ls : Nat → Nat) (n : Nat) : Bool := (List.range n).all (fun j => Ls j == n0)
theorem alike_iff {n0 : Nat} {Ls : Nat → Nat} {n : Nat} : alike n0 Ls n = true ↔ ∀ j, j < n → Ls j = n0 := by simp [alike]
theorem alike_no {n0 : Nat} {Ls : Nat → Nat} {n k : Nat} (hk : k < n) (h : Ls k ≠ n0) : alike n0 Ls n = false := by
  cases e : alike n0 Ls n
  · rfl
  · exact absurd (alike_iff.1 e k hk) h

set_option maxRecDepth 100000 in
set_option maxHeartbeats 1000000 in
theorem alike32 (b : Nat) (A0 : Option Addr) (n0 c0 : Nat) (As : Nat → Option Addr) (Ls Cs : Nat → Nat) (A : Option Addr) (n c : Nat) (hn : n ≤ 100000) (w : World) (hr : Rd b w (slis As Ls Cs) A n) :
    Calls Tryz.prog 45 #[.slice A0 n0 c0, .slice A n c] w fun e w' => e = .returned (.bool (alike n0 Ls n)) ∧ w = w' := by
  have HR := Lib.hid hr
  clear hr
  obtain ⟨t, ht⟩ : ∃ t, alike n0 Ls n = t := ⟨_, rfl⟩
  rw [ht]
  have HT := Lib.hid ht
  clear ht
  go_enter Tryz.func45, Tryz.ntmps45
  go_wp2_with fail
  go_loop [9] (fun s9 => ∃ k : Nat, k ≤ n ∧ s9 = .int .i64 k ∧ Hid (∀ j, j < k → Ls j = n0)) (fun s9 => n - (intOf s9).toNat)
  case atStart => exact ⟨0, Nat.zero_le _, rfl, Lib.hid (fun j hj => absurd hj (by omega))⟩
  case round =>
    obtain ⟨k, hk, rfl, hall⟩ := hrel
    by_cases hlt : k < n
    · obtain ⟨ad, rfl, hcell⟩ := HR.out.at_ hlt
      simp only [slis] at hcell
      by_cases he : Ls k = n0
      · have hne : (((Ls k : Nat) : Int) != ((n0 : Nat) : Int)) = false := by simp [he]
        have HE := Lib.hid he
        clear he
        go_wp2_with fail
        exact ⟨⟨k + 1, hlt, by go_num, Lib.hid (fun j hj => (Nat.lt_succ_iff_lt_or_eq.1 hj).elim (fun h => hall.out j h) (fun h => h ▸ HE.out))⟩, by simp [intOf]; omega⟩
      · have hne : (((Ls k : Nat) : Int) != ((n0 : Nat) : Int)) = true := by simp; omega
        have hf := alike_no hlt he
        rw [HT.out] at hf
        clear he
        go_wp2_with fail
        go_ret
        exact ⟨rfl, rfl⟩
    · obtain rfl : k = n := by omega
      have hf := alike_iff.2 hall.out
      rw [HT.out] at hf
      go_wp2_with fail
      go_ret
      exact ⟨rfl, rfl⟩

set_option maxRecDepth 100000 in
set_option maxHeartbeats 1000000 in
/-- Clone, of any bytes -/
theorem clone41 (b : Nat) (f : Nat → Nat) (A : Option Addr) (n c : Nat) (hn : n ≤ 100000) (w : World) (hr : Rd b w (u8s f) A n) :
    Calls Tryz.prog 72 #[.slice A n c] w fun e w' => ∃ A' c', e = .returned (.slice A' n c') ∧ Own w.heap.size w' (u8s f) A' n c' ∧ Below w.heap.size w w' := by
  obtain ⟨i0, hi, hz0, hz1, hz2⟩ := info_parts infoB
  rcases A with _ | ad
  · have h0 : n = 0 := by
      rcases Nat.eq_zero_or_pos n with h | h
      · exact h
      · obtain ⟨_, e, _⟩ := hr h
        cases e
    subst h0
    clear hr
    have hnl := Lib.run_eql_slice_nil (P := Tryz.prog) w TBs TB none 0 c 0 0 Tryz.underlying34
    go_enter Tryz.func72, Tryz.ntmps72
    go_wp2_with fail
    go_ret
    exact ⟨none, 0, rfl, ⟨Nat.le_refl _, fun h => absurd h (by omega)⟩, Below.refl _ _⟩
  · have HR := Lib.hid hr
    clear hr
    go_enter Tryz.func72, Tryz.ntmps72
    have hnl := Lib.run_eql_slice_nil (P := Tryz.prog) w TBs TB (some ad) n c 0 0 Tryz.underlying34
    go_wp2_with (at_builtin; refine wpList_append_own _ rfl _ _ TBs rfl w.heap.size TB i0 (.int .u8 0) 1 1 Tryz.underlying34 hi hz0 hz1 hz2 rfl (by decide) _ 0 [] rfl (World.ownsRow_lit w #[] 0 (Nat.le_refl _) (Nat.zero_le _) rfl) ad n c ((List.range n).map (u8s f)) rfl (by simp) ?c1 ?c2 ?c3 ?c4 ?c5 ?_)
    case c1 =>
      intro j u hj
      have hjn : j < n := by
        rcases Nat.lt_or_ge j n with h | h
        · exact h
        · rw [List.getElem?_eq_none (by simpa using h)] at hj; cases hj
      rw [List.getElem?_map, List.getElem?_range hjn] at hj
      obtain ⟨ad', e, _, hlt, hc⟩ := HR.out (by omega)
      injection e with e
      subst e
      rw [World.cell?_alloc_lt w _ _ (by rw [block_of_add]; exact hlt), hc j hjn, ← hj]; rfl
    case c2 =>
      intro u hu
      obtain ⟨j, _, rfl⟩ := List.mem_map.1 hu
      rfl
    case c3 => unfold maxLen; omega
    case c4 => omega
    case c5 => simp
    intro v' w1 hown hg _
    obtain ⟨A', c', rfl, ho⟩ := Own.of_own hown
    have HE := Lib.hid (And.intro ho (((Below.refl _ w).alloc (Nat.le_refl _) _).grown hg (by simp) (fun q h => by simp [Value.ownBlock] at h; omega)))
    clear hown hg ho hnl
    go_wp2_with fail
    go_ret
    exact ⟨A', c', rfl, HE.out⟩

/-- bytes added up -/
def sumB (f : Nat → Nat) (F : Nat → Nat → Nat) : Nat → Nat → Nat
  | 0, i => f i
  | r + 1, i => sumB f F r i ^^^ F r i
theorem sumB_lt {f : Nat → Nat} {F : Nat → Nat → Nat} (hf : ∀ j, f j < 256) (hF : ∀ r j, F r j < 256) : ∀ r i, sumB f F r i < 256
  | 0, i => hf i
  | r + 1, i => Nat.xor_lt_two_pow (n := 8) (sumB_lt hf hF r i) (hF r i)

/-- in sum's loop over the rows -/
def SumAt (m n c : Nat) (A : Option Addr) (f : Nat → Nat) (F : Nat → Nat → Nat) (w : World) (s14 : Value) (wr : World) : Prop :=
  ∃ r : Nat, r ≤ m ∧ s14 = .int .i64 r ∧ Own w.heap.size wr (u8s (sumB f F r)) A n c ∧ Below w.heap.size w wr
/-- in its loop over the bytes -/
def SumIn (r n c : Nat) (A : Option Addr) (f : Nat → Nat) (F : Nat → Nat → Nat) (w : World) (s20 : Value) (wr : World) : Prop :=
  ∃ i : Nat, i ≤ n ∧ s20 = .int .i64 i ∧ Own w.heap.size wr (u8s (fun j => if j < i then sumB f F (r + 1) j else sumB f F r j)) A n c ∧ Below w.heap.size w wr

theorem sumIn_step {r n c i g : Nat} {f : Nat → Nat} {F : Nat → Nat → Nat} {w wr : World} {K : Nat → Value} (hi : i < n) (hn : n ≤ c) (hg : w.heap.size ≤ g) (hr : wr.rowIs g TB c K)
    (hK : ∀ j, j < n → K j = u8s (fun j => if j < i then sumB f F (r + 1) j else sumB f F r j) j) (hb : Below w.heap.size w wr) {v : Value} (hv : v = .int .u8 (sumB f F r i ^^^ F r i : Nat)) :
    SumIn r n c (some ⟨g, 0, none⟩) f F w (.int .i64 (i + 1 : Nat)) (wr.setCell ⟨g, i, none⟩ v) := by
  subst hv
  refine ⟨i + 1, hi, rfl, ⟨hn, fun _ => ⟨g, _, rfl, hg, hr.set i _, fun j hj => ?_⟩⟩, hb.setCell (p := ⟨g, i, none⟩) hg _⟩
  show (if j = i then _ else K j) = _
  rw [hK j hj]
  rcases Nat.lt_trichotomy j i with h | h | h
  · rw [if_neg (by omega)]; simp only [u8s]; rw [if_pos h, if_pos (by omega)]
  · subst h; rw [if_pos rfl]; simp only [u8s]; rw [if_pos (by omega)]; rfl
  · rw [if_neg (by omega)]; simp only [u8s]; rw [if_neg (by omega), if_neg (by omega)]

set_option maxRecDepth 100000 in
set_option maxHeartbeats 1000000 in
theorem sum33 (b : Nat) (f : Nat → Nat) (hf : ∀ j, f j < 256) (F : Nat → Nat → Nat) (hF : ∀ r j, F r j < 256) (A0 : Option Addr) (n c0 : Nat) (hn : n ≤ 100000) (As : Nat → Option Addr) (Ls Cs : Nat → Nat) (A : Option Addr) (m c : Nat) (hm : m ≤ 100000) (w : World) (hbw : b < w.heap.size)
    (hr0 : Rd b w (u8s f) A0 n) (hr : Rd b w (slis As Ls Cs) A m) (hrs : ∀ r, r < m → Ls r = n ∧ Rd b w (u8s (F r)) (As r) n) :
    Calls Tryz.prog 47 #[.slice A0 n c0, .slice A m c] w fun e w' => ∃ v, e = .returned v ∧ BytesTold b n (sumB f F m) w v w' := by
  have HR := Lib.hid hr
  have HRS := Lib.hid hrs
  clear hr hrs
  go_enter Tryz.func47, Tryz.ntmps47
  go_wp2_with fail
  refine (clone41 b f A0 n c0 hn _ hr0).mono ?_
  rintro e w1 ⟨A', c', rfl, ho, hb1⟩
  have HST := Lib.hid (show SumAt m n c' A' f F w (.int .i64 0) w1 from ⟨0, Nat.zero_le _, rfl, ho, hb1⟩)
  clear ho hb1 hr0
  go_wp2_with fail
  go_loopw [14] (fun s14 wr => SumAt m n c' A' f F w s14 wr) (fun s14 _ => m - (intOf s14).toNat)
  case atStart => exact HST.out
  case round =>
    clear HST
    obtain ⟨r, hrm, rfl, ho, hb⟩ := hrel
    by_cases hlt : r < m
    · obtain ⟨ad, rfl, hcell⟩ := (HR.out.below hb).at_ hlt
      obtain ⟨hl, hrr⟩ := HRS.out r hlt
      simp only [slis] at hcell
      rw [hl] at hcell
      have HRR := Lib.hid hrr
      have HO := Lib.hid ho
      have HB := Lib.hid hb
      clear hl hrr ho hb
      go_wp2_with fail
      go_loopw [20] (fun s20 wr => SumIn r n c' A' f F w s20 wr) (fun s20 _ => n - (intOf s20).toNat)
      case atStart => exact ⟨0, Nat.zero_le _, rfl, HO.out.congr (fun j _ => by simp only [u8s]; rw [if_neg (by omega)]), HB.out⟩
      case round =>
        obtain ⟨i, hin, rfl, ho', hb'⟩ := hrel
        by_cases hlt' : i < n
        · obtain ⟨ad2, hA2, hcell2⟩ := (HRR.out.below hb').at_ hlt'
          obtain ⟨g, K, rfl, hgn, hrow, hK⟩ := ho'.2 (by omega)
          have hnc := ho'.1
          have g1 := hrow.cell (i := i) (by omega)
          rw [hK i hlt'] at g1
          simp only [u8s] at g1 hcell2
          rw [if_neg (by omega)] at g1
          have f1 := hrow.frozen i
          have HS := Lib.hid (fun (v : Value) (hv : v = .int .u8 (sumB f F r i ^^^ F r i : Nat)) => sumIn_step (r := r) hlt' hnc hgn hrow hK hb' hv)
          have hx := sumB_lt hf hF r i
          have hy := hF r i
          clear ho' hb' hrow hK
          obtain ⟨x, hxx⟩ : ∃ x, sumB f F r i = x := ⟨_, rfl⟩
          obtain ⟨y, hyy⟩ : ∃ y, F r i = y := ⟨_, rfl⟩
          rw [hxx] at g1 HS hx
          rw [hyy] at hcell2 HS hy
          clear hxx hyy
          rw [hA2]
          go_wp2_with fail
          refine ⟨HS.out _ ?_, by simp [intOf]; omega⟩
          rw [u8_xor_nat x y hx hy]
        · obtain rfl : i = n := by omega
          have HE := Lib.hid (show SumAt m i c' A' f F w (.int .i64 (r + 1 : Nat)) wr from ⟨r + 1, hlt, rfl, ho'.congr (fun j hj => by simp only [u8s]; rw [if_pos hj]), hb'⟩)
          clear ho' hb'
          go_wp2_with fail
          exact ⟨HE.out, by simp [intOf]; omega⟩
    · obtain rfl : r = m := by omega
      have HE := Lib.hid (show BytesTold b n (sumB f F r) w (.slice A' n c') wr from ⟨A', c', rfl, ⟨ho.1, fun g hg => ho.rd hg⟩, ho.rd hbw, hb⟩)
      clear ho hb
      go_wp2_with fail
      go_ret
      exact ⟨_, rfl, HE.out⟩
end Go.Proofs.YtgbipbcejjlpiaaGreatDoor
