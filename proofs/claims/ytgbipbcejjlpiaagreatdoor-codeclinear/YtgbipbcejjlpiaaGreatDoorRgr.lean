/- Contracts of gambrelref03: Words and Bytes. -/
import Derived.Test.YtgbipbcejjlpiaaGreatDoorRgl
import Derived.Test.YtgbipbcejjlpiaaGreatDoorGxj
namespace Go.Proofs.YtgbipbcejjlpiaaGreatDoor
open Go.RowKit

/-- in Words' loop -/
def RWordsAt (n L : Nat) (f : Nat → Nat) (w : World) (s6 s8 : Value) (wr : World) : Prop :=
  ∃ k : Nat, n * k ≤ L ∧ s8 = .int .i64 (n * k : Nat) ∧ App w TI (i64s (fun j => word n f j)) k s6 wr

set_option maxRecDepth 100000 in
set_option maxHeartbeats 1000000 in
theorem rwords1 (b : Nat) (f : Nat → Nat) (hf : ∀ j, f j < 256) (A : Option Addr) (L c : Nat) (hL : L ≤ 100000) (w : World) (hbw : b < w.heap.size) (hr : Rd b w (u8s f) A L) :
    Calls Tryz.prog 82 #[.int .i64 8, .slice A L c] w fun e w' => ∃ v, e = .returned (.tuple #[v, .bool true]) ∧ IntsTold b L (fun j => word 1 f j) w v w' := by
  obtain ⟨i0, hi, hz0, hz1, hz2⟩ := info_parts infoI
  have HR := Lib.hid hr
  clear hr
  go_enter Tryz.func82, Tryz.ntmps82
  go_wp2_with fail
  go_loopw [6, 8] (fun s6 s8 wr => RWordsAt 1 L f w s6 s8 wr) (fun _ s8 _ => L - (intOf s8).toNat)
  case atStart => exact ⟨0, Nat.zero_le _, rfl, App.start _ _ _⟩
  case round =>
    obtain ⟨k, hk, rfl, happ⟩ := hrel
    rw [Nat.one_mul] at hk ⊢
    by_cases hlt : k < L
    · obtain ⟨ad, rfl, hcell⟩ := (HR.out.below happ.2).at_ hlt
      have HA := Lib.hid happ
      have hsz := happ.2.size
      have hx := hf k
      have HX := Lib.hid (show word 1 f k = f k by simp [word])
      clear happ
      simp only [u8s] at hcell
      obtain ⟨x, hfx⟩ : ∃ x, f k = x := ⟨_, rfl⟩
      rw [hfx] at hcell hx HX
      clear hfx
      go_wp2_with (at_builtin; refine wpList_append_own _ rfl _ _ TIs rfl w.heap.size TI i0 (.int .i64 0) 1 8 Tryz.underlying51 hi hz0 hz1 hz2 rfl (by decide) _ _ _ rfl (HA.out.1.alloc _) ⟨wr.heap.size, 0, none⟩ 1 1 [.int .i64 (word 1 f k : Nat)] rfl rfl ?c1 (one_i64 _) ?c3 ?c4 ?c5 ?_)
      case c1 => exact news_one (by rw [HX.out])
      case c3 => unfold maxLen; omega
      case c4 => omega
      case c5 => simp; omega
      intro v' w1 hown' hgrow _
      have HS := Lib.hid (HA.out.step hown' hgrow)
      clear hown' hgrow HA
      go_wp2_with fail
      exact ⟨⟨k + 1, by omega, by rw [Nat.one_mul]; go_num, HS.out⟩, by simp [intOf]; omega⟩
    · obtain rfl : k = L := by omega
      have HD := Lib.hid (IntsTold.of happ.drew hbw)
      clear happ
      go_wp2_with fail
      go_region
      all_goals
        go_wp2_with fail
        go_ret2
        exact ⟨_, rfl, HD.out⟩

set_option maxRecDepth 100000 in
set_option maxHeartbeats 1000000 in
theorem rwords2 (b : Nat) (f : Nat → Nat) (hf : ∀ j, f j < 256) (A : Option Addr) (L c : Nat) (hL : L ≤ 100000) (w : World) (hbw : b < w.heap.size) (hr : Rd b w (u8s f) A L) :
    Calls Tryz.prog 82 #[.int .i64 16, .slice A L c] w fun e w' => ∃ v, e = .returned (.tuple #[v, .bool (decide (L % 2 = 0))]) ∧ IntsTold b (L / 2) (fun j => word 2 f j) w v w' := by
  obtain ⟨i0, hi, hz0, hz1, hz2⟩ := info_parts infoI
  have HR := Lib.hid hr
  clear hr
  have HD : decide (L % 2 = 0) = ((L : Int) % 2 == 0) := by apply Bool.eq_iff_iff.2; simp; omega
  rw [HD]
  clear HD
  go_enter Tryz.func82, Tryz.ntmps82
  go_wp2_with fail
  go_loopw [6, 8] (fun s6 s8 wr => RWordsAt 2 L f w s6 s8 wr) (fun _ s8 _ => L - (intOf s8).toNat)
  case atStart => exact ⟨0, Nat.zero_le _, rfl, App.start _ _ _⟩
  case round =>
    obtain ⟨k, hk, rfl, happ⟩ := hrel
    obtain ⟨i, hik⟩ : ∃ i, 2 * k = i := ⟨_, rfl⟩
    rw [hik] at hk ⊢
    have HIK := Lib.hid hik
    by_cases hlt : i + 1 < L
    · obtain ⟨ad, hA, hcell⟩ := (HR.out.below happ.2).at_ (show i < L by omega)
      obtain ⟨ad', hA', hcell2⟩ := (HR.out.below happ.2).at_ hlt
      rw [hA] at hA'
      injection hA' with hA'
      subst hA' hA
      have HA := Lib.hid happ
      have hsz := happ.2.size
      have hx := hf i
      have hy := hf (i + 1)
      have HX := Lib.hid (show word 2 f k = f i + 256 * f (i + 1) by simp [word, hik])
      clear happ
      simp only [u8s] at hcell hcell2
      rw [show ad.add (i + 1) = ⟨ad.block, ad.off + (i + 1), none⟩ by unfold Addr.add; simp] at hcell2
      obtain ⟨x, hfx⟩ : ∃ x, f i = x := ⟨_, rfl⟩
      obtain ⟨y, hfy⟩ : ∃ y, f (i + 1) = y := ⟨_, rfl⟩
      rw [hfx] at hcell hx HX
      rw [hfy] at hcell2 hy HX
      have hk2 : k ≤ 100000 := by omega
      clear hfx hfy hik
      go_wp2_with (at_builtin; refine wpList_append_own _ rfl _ _ TIs rfl w.heap.size TI i0 (.int .i64 0) 1 8 Tryz.underlying51 hi hz0 hz1 hz2 rfl (by decide) _ _ _ rfl (HA.out.1.alloc _) ⟨wr.heap.size, 0, none⟩ 1 1 [.int .i64 (word 2 f k : Nat)] rfl rfl ?c1 (one_i64 _) ?c3 ?c4 ?c5 ?_)
      case c1 => exact news_one (by rw [HX.out]; go_num)
      case c3 => unfold maxLen; omega
      case c4 => omega
      case c5 => simp; omega
      intro v' w1 hown' hgrow _
      have HS := Lib.hid (HA.out.step hown' hgrow)
      clear hown' hgrow HA
      go_wp2_with fail
      have hik := HIK.out
      exact ⟨⟨k + 1, by omega, by rw [Nat.mul_add, hik]; go_num, HS.out⟩, by simp [intOf]; omega⟩
    · obtain rfl : k = L / 2 := by omega
      have HD := Lib.hid (IntsTold.of happ.drew hbw)
      clear happ hik
      go_wp2_with fail
      go_region
      all_goals
        go_wp2_with fail
        go_ret2
        exact ⟨_, rfl, HD.out⟩

/-- Words, of any bytes -/
theorem rwords12 (b wd n c : Nat) (hw : Wide wd n c) (f : Nat → Nat) (hf : ∀ j, f j < 256) (A : Option Addr) (L cap : Nat) (hL : L ≤ 100000) (w : World) (hbw : b < w.heap.size) (hr : Rd b w (u8s f) A L) :
    Calls Tryz.prog 82 #[.int .i64 wd, .slice A L cap] w fun e w' => ∃ v, e = .returned (.tuple #[v, .bool (decide (L % n = 0))]) ∧ IntsTold b (L / n) (fun j => word n f j) w v w' := by
  rcases hw with ⟨rfl, rfl, rfl⟩ | ⟨rfl, rfl, rfl⟩
  · rw [Nat.div_one, show decide (L % 1 = 0) = true by simp [Nat.mod_one]]
    exact rwords1 b f hf A L cap hL w hbw hr
  · exact rwords2 b f hf A L cap hL w hbw hr

/-- in Bytes' loop -/
def RBytesAt (n c m : Nat) (l : Nat → Int) (w : World) (s6 s7 : Value) (wr : World) : Prop :=
  ∃ k : Nat, k ≤ m ∧ s7 = .int .i64 k ∧ allIn c l k ∧ App w TB (u8s (byt n l)) (k * n) s6 wr
/-- what Bytes tells -/
def RBytesSaid (b n m c : Nat) (l : Nat → Int) (w : World) (e : Ending) (w' : World) : Prop :=
  (allIn c l m ∧ ∃ v, e = .returned (.tuple #[v, .bool true]) ∧ BytesTold b (m * n) (byt n l) w v w') ∨ (¬ allIn c l m ∧ e = .returned (.tuple #[nilS, .bool false]) ∧ Below w.heap.size w w')

set_option maxRecDepth 100000 in
set_option maxHeartbeats 2000000 in
theorem rbytes14 (b wd n c : Nat) (hw : Wide wd n c) (l : Nat → Int) (A : Option Addr) (m cap : Nat) (hm : m ≤ 100000) (w : World) (hbw : b < w.heap.size) (hr : Rd b w (i64s l) A m) :
    Calls Tryz.prog 85 #[.int .i64 wd, .slice A m cap] w (RBytesSaid b n m c l w) := by
  obtain ⟨i0, hi, hz0, hz1, hz2⟩ := info_parts infoB
  have hwb := hw.bounds
  have hk' := hw.kind
  have HR := Lib.hid hr
  clear hr
  go_enter Tryz.func85, Tryz.ntmps85
  go_wp2_with fail
  go_loopw [6, 7] (fun s6 s7 wr => RBytesAt n c m l w s6 s7 wr) (fun _ s7 _ => m - (intOf s7).toNat)
  case atStart => exact ⟨0, Nat.zero_le _, rfl, fun j hj => absurd hj (by omega), by rw [Nat.zero_mul]; exact App.start _ _ _⟩
  case round =>
    obtain ⟨k, hk, rfl, hall, happ⟩ := hrel
    by_cases hlt : k < m
    · obtain ⟨ad, rfl, hcell⟩ := (HR.out.below happ.2).at_ hlt
      simp only [i64s] at hcell
      obtain ⟨x, hx⟩ : ∃ x, l k = x := ⟨_, rfl⟩
      rw [hx] at hcell
      have HX := Lib.hid hx
      have HALL := Lib.hid hall
      have HA := Lib.hid happ
      have hsz := happ.2.size
      clear hall
      by_cases hin : 0 ≤ x ∧ x ≤ c
      · have HI := Lib.hid (inB_iff.2 hin)
        have h0 := hin.1
        have h1 : x ≤ 65535 := by omega
        have hkn : k * n ≤ 200000 := by
          have : k * n ≤ 100000 * 2 := Nat.mul_le_mul (by omega) hwb.2.1
          omega
        have HB0 := Lib.hid (byt_at hw l k 0 (by omega) (by rw [hx]; exact h0) (by rw [hx]; exact hin.2))
        have HNX := Lib.hid (show allIn c l (k + 1) from fun j hj => (Nat.lt_succ_iff_lt_or_eq.1 hj).elim (fun h => HALL.out j h) (fun h => by rw [h, hx]; exact hin))
        have HB1 := Lib.hid (fun hn : 1 < n => byt_at hw l k 1 hn (by rw [hx]; exact h0) (by rw [hx]; exact hin.2))
        rw [hx] at HB0 HB1
        clear hin hx happ
        have hs8 : x % 256 ≤ 255 := by omega
        have hs9 : 0 ≤ x % 256 := by omega
        have hkn1 : (k * n : Nat) ≤ 200000 := hkn
        have HR' := Lib.hid (fun (w1 : World) (v1 : Value) (h : App w TB (u8s (byt n l)) (k * n + 1) v1 w1) => ((HR.out.below h.2).at_ hlt))
        rcases hw with ⟨hwd, rfl, rfl⟩ | ⟨hwd, rfl, rfl⟩
        · have h16 : ((wd : Int) == 16) = false := by simp [hwd]
          clear hwd
          rw [Nat.mul_one] at HA HB0 hkn HR'
          go_wp2_with (first
            | (go_at_call 83; refine (rin32 wd _ hk' x _).mono ?_; rintro e w' ⟨rfl, rfl⟩; rw [HI.out])
            | (at_builtin; refine wpList_append_own _ rfl (.tmp 21) (.tmp 28) TBs rfl w.heap.size TB i0 (.int .u8 0) 1 1 Tryz.underlying34 hi hz0 hz1 hz2 rfl (by decide) _ _ _ rfl (HA.out.1.alloc _) ⟨wr.heap.size, 0, none⟩ 1 1 [.int .u8 (byt 1 l k : Nat)] rfl rfl (news_one (by rw [show byt 1 l k = byt 1 l (k + 0) from rfl, HB0.out]; simp)) (one_u8 _) (by unfold maxLen; omega) (by omega) (by simp; omega) ?_))
          intro v1 w1 hown1 hg1 _
          have HA1 := Lib.hid (HA.out.step hown1 hg1)
          clear hown1 hg1
          go_wp2_with fail
          exact ⟨⟨k + 1, hlt, by go_num, HNX.out, by rw [Nat.mul_one]; exact HA1.out⟩, by simp [intOf]; omega⟩
        · have h16 : ((wd : Int) == 16) = true := by simp [hwd]
          clear hwd
          go_wp2_with (first
            | (go_at_call 83; refine (rin32 wd _ hk' x _).mono ?_; rintro e w' ⟨rfl, rfl⟩; rw [HI.out])
            | (at_builtin; refine wpList_append_own _ rfl (.tmp 21) (.tmp 28) TBs rfl w.heap.size TB i0 (.int .u8 0) 1 1 Tryz.underlying34 hi hz0 hz1 hz2 rfl (by decide) _ _ _ rfl (HA.out.1.alloc _) ⟨wr.heap.size, 0, none⟩ 1 1 [.int .u8 (byt 2 l (k * 2) : Nat)] rfl rfl (news_one (by rw [show byt 2 l (k * 2) = byt 2 l (k * 2 + 0) from rfl, HB0.out]; simp)) (one_u8 _) (by unfold maxLen; omega) (by omega) (by simp; omega) ?_; intro v1 w1 hown1 hg1 _; have HA1 := Lib.hid (HA.out.step hown1 hg1); obtain ⟨ad1, e1, hcell1⟩ := HR'.out w1 v1 HA1.out; injection e1 with e1; subst e1; simp only [i64s] at hcell1; rw [HX.out] at hcell1; have hsz1 := HA1.out.2.size; clear hown1 hg1)
            | (at_builtin; refine wpList_append_own _ rfl (.tmp 32) (.tmp 39) TBs rfl w.heap.size TB i0 (.int .u8 0) 1 1 Tryz.underlying34 hi hz0 hz1 hz2 rfl (by decide) _ _ _ rfl (HA1.out.1.alloc _) ⟨w1.heap.size, 0, none⟩ 1 1 [.int .u8 (byt 2 l (k * 2 + 1) : Nat)] rfl rfl (news_one (by rw [HB1.out (by omega), show (2 : Int) ^ (8 * 1) = 256 by decide]; congr 1; omega)) (one_u8 _) (by unfold maxLen; omega) (by omega) (by simp; omega) ?_))
          intro v2 w2 hown2 hg2 _
          have HA2 := Lib.hid (HA1.out.step (by rw [range_snoc, List.append_assoc]; exact hown2) hg2)
          clear hown2 hg2
          go_wp2_with fail
          exact ⟨⟨k + 1, hlt, by go_num, HNX.out, by rw [Nat.add_mul]; exact HA2.out⟩, by simp [intOf]; omega⟩
      · have HI := Lib.hid (inB_false.2 hin)
        have HE := Lib.hid (show RBytesSaid b n m c l w (.returned (.tuple #[nilS, .bool false])) wr from Or.inr ⟨fun h => hin (hx ▸ h k hlt), rfl, happ.2⟩)
        clear hin hx happ
        go_wp2_with (go_at_call 83; refine (rin32 wd _ hk' x _).mono ?_; rintro e w' ⟨rfl, rfl⟩; rw [HI.out])
        go_ret2
        exact HE.out
    · obtain rfl : k = m := by omega
      have HE := Lib.hid (show RBytesSaid b n k c l w (.returned (.tuple #[_, .bool true])) wr from Or.inl ⟨hall, _, rfl, BytesTold.of happ hbw⟩)
      clear happ hall
      go_wp2_with fail
      go_ret2
      exact HE.out
end Go.Proofs.YtgbipbcejjlpiaaGreatDoor
