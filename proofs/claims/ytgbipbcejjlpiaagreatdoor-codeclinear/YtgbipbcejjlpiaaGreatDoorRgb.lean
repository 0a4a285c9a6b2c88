/- The contract of package region's Bytes. -/
import Derived.Test.YtgbipbcejjlpiaaGreatDoorRgw
import Derived.Deep.LoopGhost
namespace Go.Proofs.YtgbipbcejjlpiaaGreatDoor
open Go.RowKit

set_option maxRecDepth 100000 in
theorem bytes_nil (A : Option Addr) (L cap : Nat) (w : World) :
    Calls Tryz.prog 71 #[.pointer none, .slice A L cap] w fun e w' => e = .returned (.tuple #[nilS, .int .i64 1]) ∧ w = w' := by
  go_enter Tryz.func71, Tryz.ntmps71
  go_wp2_with fail
  refine (width_nil _).mono ?_
  rintro e w' ⟨rfl, rfl⟩
  go_wp2_with fail
  go_ret2
  exact ⟨rfl, rfl⟩

/-- t bytes are laid -/
def BytesOwn (n N : Nat) (l : Nat → Int) (w : World) (t : Nat) (v : Value) (wr : World) : Prop :=
  ∃ g, v = .slice (some ⟨g, 0, none⟩) t N ∧ w.heap.size ≤ g ∧ wr.ownsRow w.heap.size TB 1 v t ((List.range t).map (u8s (byt n l))) ∧ Below w.heap.size w wr
/-- in Bytes' loop over the numbers -/
def BytesAt (n m c : Nat) (l : Nat → Int) (w : World) (s7 s22 : Value) (wr : World) : Prop :=
  ∃ k : Nat, k ≤ m ∧ s22 = .int .i64 k ∧ allIn c l k ∧ BytesOwn n (m * n) l w (k * n) s7 wr
/-- in its loop over the bytes of one -/
def ByteAt (n m k : Nat) (l : Nat → Int) (w : World) (s7 s31 : Value) (wr : World) : Prop :=
  ∃ i : Nat, i ≤ n ∧ s31 = .int .i64 i ∧ BytesOwn n (m * n) l w (k * n + i) s7 wr
/-- what Bytes tells -/
def BytesSaid (n m c : Nat) (l : Nat → Int) (w : World) (e : Ending) (w' : World) : Prop :=
  Below w.heap.size w w' ∧ ((allIn c l m ∧ ∃ g, e = .returned (.tuple #[.slice (some ⟨g, 0, none⟩) (m * n) (m * n), .int .i64 0]) ∧ w.heap.size ≤ g ∧ ∀ b, b < w.heap.size → Rd b w' (u8s (byt n l)) (some ⟨g, 0, none⟩) (m * n)) ∨
    (¬ allIn c l m ∧ e = .returned (.tuple #[nilS, .int .i64 1])))

theorem byt_at {wd n c : Nat} (hw : Wide wd n c) (l : Nat → Int) (k i : Nat) (hi : i < n) (h0 : 0 ≤ l k) (h1 : l k ≤ c) : (byt n l (k * n + i) : Int) = (l k / 2 ^ (8 * i)) % 256 := by
  rcases hw with ⟨rfl, rfl, rfl⟩ | ⟨rfl, rfl, rfl⟩
  · obtain rfl : i = 0 := by omega
    simp [byt]; omega
  · obtain rfl | rfl : i = 0 ∨ i = 1 := by omega
    · have e1 : (k * 2 + 0) % 2 = 0 := by omega
      have e2 : (k * 2 + 0) / 2 = k := by omega
      simp only [byt, e1, e2]
      simp; omega
    · have e1 : (k * 2 + 1) % 2 = 1 := by omega
      have e2 : (k * 2 + 1) / 2 = k := by omega
      simp only [byt, e1, e2]
      simp; omega

theorem bytesOwn_step {n N T g : Nat} {l : Nat → Int} {w wr w1 : World} {o : Obj} (hgn : w.heap.size ≤ g) (hb : Below w.heap.size w wr)
    (hown : w1.ownsRow w.heap.size TB 1 (.slice (some ⟨g, 0, none⟩) (T + 1) N) (T + 1) ((List.range T).map (u8s (byt n l)) ++ [.int .u8 (byt n l T)])) (hg : (wr.alloc o).grownBy w1 (some g)) :
    BytesOwn n N l w (T + 1) (.slice (some ⟨g, 0, none⟩) (T + 1) N) w1 := by
  refine ⟨g, rfl, hgn, ?_, ?_⟩
  · rw [range_snoc]; exact hown
  · exact (hb.alloc hb.size o).grown hg (by simp; have := hb.size; omega) (fun q h => by cases h; exact hgn)

set_option maxRecDepth 100000 in
set_option maxHeartbeats 2000000 in
theorem bytes13 (b wd n c : Nat) (hw : Wide wd n c) (l : Nat → Int) (A : Option Addr) (m cap : Nat) (hm : m ≤ 100000) (w : World) (hc : w.cell? ⟨b, 0, none⟩ = some (.int .i64 wd)) (hr : Rd b w (i64s l) A m) (hbl : b < w.heap.size) :
    Calls Tryz.prog 71 #[.pointer (some ⟨b, 0, none⟩), .slice A m cap] w (BytesSaid n m c l w) := by
  obtain ⟨i0, hi, hz0, hz1, hz2⟩ := info_parts infoB
  have hwb := hw.bounds
  have HR := Lib.hid hr
  clear hr
  have hmn : m * n ≤ 200000 := by
    have : m * n ≤ 100000 * 2 := Nat.mul_le_mul hm hwb.2.1
    omega
  obtain ⟨N, hN⟩ : ∃ N, m * n = N := ⟨_, rfl⟩
  have hNi : (m : Int) * n = N := by rw [← hN]; simp
  rw [hN] at hmn
  have HN := Lib.hid hN
  clear hN
  go_enter Tryz.func71, Tryz.ntmps71
  go_wp2_with fail
  refine (width30 b wd n c hw _ hc).mono ?_
  rintro e w' ⟨rfl, rfl⟩
  have hn0 : ((n : Int) == 0) = false := by simp; omega
  go_wp2_with (refine wpList_make_own _ rfl _ _ TBs rfl w.heap.size TB i0 (.int .u8 0) 1 Tryz.underlying34 hi hz0 hz1 .i64 .i64 _ N rfl rfl (by omega) (by rw [hz2]; omega) (by unfold maxLen; omega) (Nat.le_refl _) ?_; intro w1 hown1 hg1)
  have HST := Lib.hid (show BytesAt n m c l w (.slice (some ⟨w.heap.size, 0, none⟩) 0 N) (.int .i64 0) w1 from
    ⟨0, Nat.zero_le _, rfl, fun j hj => absurd hj (by omega), w.heap.size, by rw [Nat.zero_mul, HN.out], Nat.le_refl _, by rw [Nat.zero_mul]; exact hown1, (Below.refl _ _).grown hg1 (Nat.le_refl _) (fun _ h => by cases h)⟩)
  clear hown1 hg1
  go_loopw [7, 22] (fun s7 s22 wr => BytesAt n m c l w s7 s22 wr) (fun _ s22 _ => m - (intOf s22).toNat)
  case atStart => exact HST.out
  case round =>
    clear HST
    obtain ⟨k, hk, rfl, hall, g, rfl, hgn, hown, hb⟩ := hrel
    have HALL := Lib.hid hall
    have HOWN := Lib.hid hown
    have HB := Lib.hid hb
    have hc' : wr.cell? ⟨b, 0, none⟩ = some (.int .i64 wd) := (hb.cell hbl).trans hc
    clear hall hown
    by_cases hlt : k < m
    · obtain ⟨ad, rfl, hcell⟩ := (HR.out.below hb).at_ hlt
      clear hb
      obtain ⟨x, hx⟩ : ∃ x, l k = x := ⟨_, rfl⟩
      rw [show i64s l k = .int .i64 x by simp [i64s, hx]] at hcell
      have HX := Lib.hid hx
      by_cases hin : 0 ≤ x ∧ x ≤ c
      · have HI := Lib.hid (inB_iff.2 hin)
        have h0 := hin.1
        have h1 : x ≤ 65535 := by omega
        clear hin
        go_wp2_with (go_at_call 68; refine (isnum31 b wd c hw.kind x _ hc').mono ?_; rintro e w' ⟨rfl, rfl⟩; rw [HI.out])
        go_loopw [7, 31] (fun s7 s31 wr => ByteAt n m k l w s7 s31 wr) (fun _ s31 _ => n - (intOf s31).toNat)
        case atStart => exact ⟨0, Nat.zero_le _, rfl, g, by rw [HN.out]; rfl, hgn, HOWN.out, HB.out⟩
        case round =>
          obtain ⟨i, hi', rfl, g', rfl, hgn', hown', hb'⟩ := hrel
          by_cases hlt' : i < n
          · have hbt := byt_at hw l k i hlt' (by rw [hx]; exact h0) (by rw [hx]; have := inB_iff.1 HI.out; omega)
            rw [hx] at hbt
            have hTN : k * n + i + 1 ≤ N := by
              have h2 : (k + 1) * n ≤ m * n := Nat.mul_le_mul_right n hlt
              rw [HN.out, Nat.add_mul] at h2
              omega
            rw [HN.out] at hown' ⊢
            obtain ⟨T, hT⟩ : ∃ T, k * n + i = T := ⟨_, rfl⟩
            rw [hT] at hbt hTN hown' ⊢
            have HT := Lib.hid hT
            have HBT := Lib.hid hbt
            have HO' := Lib.hid hown'
            have HB' := Lib.hid hb'
            clear hT hbt hown' hb'
            obtain rfl | rfl : i = 0 ∨ i = 1 := by omega
            · go_wp2_with (at_builtin; refine wpList_append_fits _ rfl _ _ TBs rfl w.heap.size TB i0 1 Tryz.underlying34 hi hz1 g' T N _ rfl (HO'.out.alloc _) ⟨wr.heap.size, 0, none⟩ 1 1 [.int .u8 (byt n l T)] rfl rfl ?c1 (one_u8 _) hTN ?_)
              case c1 => exact news_one (by rw [HBT.out]; simp)
              intro w2 hown2 hg2
              have HST := Lib.hid (bytesOwn_step hgn' HB'.out hown2 hg2)
              clear hown2 hg2
              go_wp2_with fail
              refine ⟨⟨1, by omega, rfl, ?_⟩, by simp [intOf]; omega⟩
              rw [HN.out, show k * n + 1 = T + 1 by rw [← HT.out]]
              exact HST.out
            · go_wp2_with (at_builtin; refine wpList_append_fits _ rfl _ _ TBs rfl w.heap.size TB i0 1 Tryz.underlying34 hi hz1 g' T N _ rfl (HO'.out.alloc _) ⟨wr.heap.size, 0, none⟩ 1 1 [.int .u8 (byt n l T)] rfl rfl ?d1 (one_u8 _) hTN ?_)
              case d1 => exact news_one (by rw [HBT.out, show (2 : Int) ^ (8 * 1) = 256 by decide]; congr 1; omega)
              intro w2 hown2 hg2
              have HST := Lib.hid (bytesOwn_step hgn' HB'.out hown2 hg2)
              clear hown2 hg2
              go_wp2_with fail
              refine ⟨⟨2, by omega, rfl, ?_⟩, by simp [intOf]; omega⟩
              rw [HN.out, show k * n + 2 = T + 1 by rw [← HT.out]]
              exact HST.out
          · obtain rfl : i = n := by omega
            have HE := Lib.hid (show BytesAt i m c l w (.slice (some ⟨g', 0, none⟩) (k * i + i) (m * i)) (.int .i64 (k + 1 : Nat)) wr from
              ⟨k + 1, hlt, rfl, fun j hj => (Nat.lt_succ_iff_lt_or_eq.1 hj).elim (fun h => HALL.out j h) (fun h => by rw [h, hx]; exact inB_iff.1 HI.out), g', by rw [Nat.add_mul, Nat.one_mul], hgn', by rw [Nat.add_mul, Nat.one_mul]; exact hown', hb'⟩)
            clear hown' hb' hx
            go_wp2_with fail
            exact ⟨HE.out, by simp [intOf]; omega⟩
      · have HI := Lib.hid (inB_false.2 hin)
        have HE := Lib.hid (show BytesSaid n m c l w (.returned (.tuple #[nilS, .int .i64 1])) wr from ⟨HB.out, Or.inr ⟨fun h => hin (hx ▸ h k hlt), rfl⟩⟩)
        clear hin hx
        go_wp2_with (go_at_call 68; refine (isnum31 b wd c hw.kind x _ hc').mono ?_; rintro e w' ⟨rfl, rfl⟩; rw [HI.out])
        go_ret2
        exact HE.out
    · obtain rfl : k = m := by omega
      have HE := Lib.hid (show BytesSaid n k c l w (.returned (.tuple #[.slice (some ⟨g, 0, none⟩) (k * n) (k * n), .int .i64 0])) wr from
        ⟨HB.out, Or.inl ⟨HALL.out, g, rfl, hgn, fun b' hb' => by
          obtain ⟨A', c', h1, _, h3⟩ := Rd.of_own (b := b') HOWN.out hb'
          injection h1 with h1
          subst h1
          exact h3⟩⟩)
      clear hb
      go_wp2_with fail
      go_ret2
      exact HE.out
end Go.Proofs.YtgbipbcejjlpiaaGreatDoor
