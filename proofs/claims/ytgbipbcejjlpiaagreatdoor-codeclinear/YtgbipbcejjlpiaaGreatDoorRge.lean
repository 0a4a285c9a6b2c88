/- Contracts of gambrelref03's Few and Dot; of Dot of package region for any input, in one form. -/
import Derived.Test.YtgbipbcejjlpiaaGreatDoorRgz
import Derived.Test.YtgbipbcejjlpiaaGreatDoorRgd
namespace Go.Proofs.YtgbipbcejjlpiaaGreatDoor
open Go.RowKit

/-- what Few tells -/
def FewSaid (N : Nat) (Ls : Nat → Nat) (w : World) (e : Ending) (w' : World) : Prop := ∃ t, e = .returned (.bool t) ∧ (t = true → N ≤ 10 ∧ ∀ r, r < N → Ls r ≤ 200) ∧ w = w'

/-- what Dot tells, of any rows -/
def DotAny (p b wd n N N' : Nat) (cs : Nat → Int) (Ls : Nat → Nat) (F : Nat → Nat → Nat) (w : World) (e : Ending) (w' : World) : Prop :=
  ∃ t A c, e = .returned (.tuple #[.slice A (cond t (Ls 0) 0) c, .int .i64 (errOf t)]) ∧ (t = true ↔ DotOk p n N N' cs Ls) ∧ Rd b w' (u8s (dotB p n cs F N)) A (cond t (Ls 0) 0) ∧ Fld p b wd w' ∧ Turned b w w' ∧ cond t (Ls 0) 0 ≤ c ∧ ∀ g, g < w.heap.size → Rd g w' (u8s (dotB p n cs F N)) A (cond t (Ls 0) 0)

theorem dot_any (p b wd n : Nat) (hw : Wide wd n (M.ord p)) (cs : Nat → Int) (F : Nat → Nat → Nat) (hF : ∀ r j, F r j < 256) (Ac : Option Addr) (N N' cc cr : Nat) (hN' : N' ≤ 1000) (As : Nat → Option Addr) (Ls Cs : Nat → Nat) (Ar : Option Addr) (hL : ∀ r, r < N' → Ls r ≤ 1000) (w : World) (hfl : Fld p b wd w)
    (hc : Rd b w (i64s cs) Ac N) (hr : Rd b w (slis As Ls Cs) Ar N') (hcr : N' ≤ cr) (hrs : ∀ r, r < N' → Rd b w (u8s (F r)) (As r) (Ls r)) :
    Calls Tryz.prog 22 #[.pointer (some ⟨b, 0, none⟩), .slice Ac N cc, .slice Ar N' cr] w (DotAny p b wd n N N' cs Ls F w) := by
  by_cases hNN : N = N'
  · subst hNN
    rcases Nat.eq_zero_or_pos N with h0 | h0
    · subst h0
      refine (dot_none _ Ac Ar cc cr w).mono ?_
      rintro e w' ⟨rfl, hb⟩
      exact ⟨false, none, 0, rfl, by simp [DotOk], Rd.zero, hfl.of_below hb, Turned.of_below hb, Nat.zero_le _, fun _ _ => Rd.zero⟩
    · cases ha : alike (Ls 0) (fun j => Ls (1 + j)) (N - 1)
      · refine (dot_odd b _ Ac N cc cr h0 hN' As Ls Cs Ar w hr hcr ha).mono ?_
        rintro e w' ⟨rfl, hb⟩
        refine ⟨false, none, 0, rfl, ?_, Rd.zero, hfl.of_below hb, Turned.of_below hb, Nat.zero_le _, fun _ _ => Rd.zero⟩
        constructor
        · intro h; cases h
        · rintro ⟨_, _, h⟩
          have : alike (Ls 0) (fun j => Ls (1 + j)) (N - 1) = true := alike_iff.2 (fun j hj => (h (1 + j) (by omega)).2.2)
          rw [ha] at this
          exact this
      · have hall : ∀ r, r < N → Ls r = Ls 0 := fun r hr' => by
          rcases Nat.eq_zero_or_pos r with h | h
          · rw [h]
          · have := alike_iff.1 ha (r - 1) (by omega)
            rwa [show 1 + (r - 1) = r by omega] at this
        refine (dot_go p b wd n hw cs F hF Ac N cc cr h0 hN' As Ls Cs Ar (Ls 0) (hL 0 h0) w hfl hc hr hcr hall (fun r hr' => by rw [← hall r hr']; exact hrs r hr')).mono ?_
        rintro e w' ⟨h1, h2, ⟨h3, A, c, rfl, h4, h6, h5⟩ | ⟨h3, rfl⟩⟩
        · refine ⟨true, A, c, rfl, ?_, h5, h1, h2, h4, h6⟩
          simp only [true_iff]
          exact ⟨rfl, h0, fun r hr' => ⟨(h3 r hr').1, by rw [hall r hr']; exact (h3 r hr').2, hall r hr'⟩⟩
        · refine ⟨false, none, 0, rfl, ?_, Rd.zero, h1, h2, Nat.zero_le _, fun _ _ => Rd.zero⟩
          constructor
          · intro h; cases h
          · rintro ⟨_, _, h⟩
            exact absurd (fun r hr' => ⟨(h r hr').1, by rw [← hall r hr']; exact (h r hr').2.1⟩) h3
  · refine (dot_unlike _ Ac Ar N N' cc cr hNN w).mono ?_
    rintro e w' ⟨rfl, hb⟩
    exact ⟨false, none, 0, rfl, by simp [DotOk, hNN], Rd.zero, hfl.of_below hb, Turned.of_below hb, Nat.zero_le _, fun _ _ => Rd.zero⟩

/-- what Dot of the document tells -/
def RDotAny (p b n N N' : Nat) (cs : Nat → Int) (Ls : Nat → Nat) (F : Nat → Nat → Nat) (w : World) (e : Ending) (w' : World) : Prop :=
  ∃ t v, e = .returned (.tuple #[v, .bool t]) ∧ (t = true ↔ DotOk p n N N' cs Ls) ∧ BytesTold b (cond t (Ls 0) 0) (dotB p n cs F N) w v w'
/-- in its loop -/
def RDotAt (p b n N : Nat) (cs : Nat → Int) (Ls : Nat → Nat) (F : Nat → Nat → Nat) (w : World) (s10 s11 : Value) (wr : World) : Prop :=
  ∃ k : Nat, k ≤ N ∧ s11 = .int .i64 k ∧ (∀ r, r < k → inB (M.ord p) (cs r) = true ∧ Ls r % n = 0 ∧ Ls r = Ls 0) ∧ (0 < k → BytesTold b (Ls 0) (dotB p n cs F k) w s10 wr) ∧ Below w.heap.size w wr

theorem rdot_false {p b n N N' : Nat} {cs : Nat → Int} {Ls : Nat → Nat} {F : Nat → Nat → Nat} {w w' : World} (h : ¬ DotOk p n N N' cs Ls) (hb : Below w.heap.size w w') : RDotAny p b n N N' cs Ls F w (.returned (.tuple #[nilS, .bool false])) w' :=
  ⟨false, _, rfl, by simp [h], bytesTold_nil hb⟩
theorem dotB_one (p n : Nat) (cs : Nat → Int) (F : Nat → Nat → Nat) : dotB p n cs F 1 = mulB p n (cs 0) (F 0) := rfl
theorem dotB_succ (p n : Nat) (cs : Nat → Int) (F : Nat → Nat → Nat) {k : Nat} (hk : 0 < k) (i : Nat) : dotB p n cs F (k + 1) i = dotB p n cs F k i ^^^ mulB p n (cs k) (F k) i := by
  obtain ⟨j, rfl⟩ : ∃ j, k = j + 1 := ⟨k - 1, by omega⟩
  show sumB _ _ (j + 1) i = _
  rw [sumB, Nat.add_comm 1 j]
  rfl
theorem dotB_lt (p n : Nat) (cs : Nat → Int) (F : Nat → Nat → Nat) (k i : Nat) : dotB p n cs F k i < 256 := sumB_lt (fun _ => byt_lt _ _ _) (fun _ _ => byt_lt _ _ _) _ _

set_option maxRecDepth 100000 in
set_option maxHeartbeats 4000000 in
theorem rdot20 (p b wd n : Nat) (hg : Good p wd) (hw : Wide wd n (M.ord p)) (cs : Nat → Int) (F : Nat → Nat → Nat) (hF : ∀ r j, F r j < 256) (Ac : Option Addr) (N N' cc cr : Nat) (hN' : N' ≤ 1000) (As : Nat → Option Addr) (Ls Cs : Nat → Nat) (Ar : Option Addr) (hL : ∀ r, r < N' → Ls r ≤ 1000) (w : World) (hbw : b < w.heap.size)
    (hc : Rd b w (i64s cs) Ac N) (hr : Rd b w (slis As Ls Cs) Ar N') (hrs : ∀ r, r < N' → Rd b w (u8s (F r)) (As r) (Ls r)) :
    Calls Tryz.prog 27 #[.int .i64 wd, .int .u32 p, .slice Ac N cc, .slice Ar N' cr] w (RDotAny p b n N N' cs Ls F w) := by
  by_cases hNN : N = N'
  · subst hNN
    rcases Nat.eq_zero_or_pos N with h0 | h0
    · subst h0
      have HE := Lib.hid (show RDotAny p b n 0 0 cs Ls F w (.returned (.tuple #[nilS, .bool false])) w from ⟨false, _, rfl, by simp [DotOk], bytesTold_nil (Below.refl _ _)⟩)
      clear hc hr hrs hL
      go_enter Tryz.func27, Tryz.ntmps27
      go_wp2_with fail
      go_ret2
      exact HE.out
    · have HC := Lib.hid hc
      have HR := Lib.hid hr
      have HRS := Lib.hid hrs
      have HLB := Lib.hid hL
      have hn0 : (((N : Nat) : Int) == 0) = false := by simp; omega
      clear hc hr hrs hL
      go_enter Tryz.func27, Tryz.ntmps27
      go_wp2_with fail
      go_loopw [10, 11] (fun s10 s11 wr => RDotAt p b n N cs Ls F w s10 s11 wr) (fun _ s11 _ => N - (intOf s11).toNat)
      case atStart => exact ⟨0, Nat.zero_le _, rfl, fun r hr => absurd hr (by omega), fun h => absurd h (by omega), Below.refl _ _⟩
      case round =>
        obtain ⟨k, hk, rfl, hall, hout, hb⟩ := hrel
        by_cases hlt : k < N
        · have KEEP := Lib.hid (show ∀ w', Below w.heap.size w w' → ∃ ad ad' : Addr, Ac = some ad ∧ Ar = some ad' ∧ w'.cell? (ad.add k) = some (.int .i64 (cs k)) ∧ w'.cell? (ad'.add k) = some (.slice (As k) (Ls k) (Cs k)) ∧ w'.cell? ad' = some (.slice (As 0) (Ls 0) (Cs 0)) from fun w' hb' => by
            obtain ⟨a1, e1, h1⟩ := (HC.out.below hb').at_ hlt
            obtain ⟨a2, e2, h2⟩ := (HR.out.below hb').at_ hlt
            obtain ⟨a3, e3, h3⟩ := (HR.out.below hb').at_ h0
            rw [e2] at e3
            injection e3 with e3
            subst e3
            exact ⟨a1, a2, e1, e2, h1, h2, by simpa [Addr.add] using h3⟩)
          obtain ⟨ad, ad', rfl, rfl, hc1, hc2, hc3⟩ := KEEP.out wr hb
          have KEEP' := Lib.hid (show ∀ w', Below w.heap.size w w' → w'.cell? (ad.add k) = some (.int .i64 (cs k)) ∧ w'.cell? (ad'.add k) = some (.slice (As k) (Ls k) (Cs k)) ∧ w'.cell? ad' = some (.slice (As 0) (Ls 0) (Cs 0)) from fun w' hb' => by
            obtain ⟨a1, a2, e1, e2, h⟩ := KEEP.out w' hb'
            injection e1 with e1
            injection e2 with e2
            subst e1 e2
            exact h)
          have HALL := Lib.hid hall
          have HOUT := Lib.hid hout
          have HB := Lib.hid hb
          have hLk := HLB.out k hlt
          have hblr := Nat.lt_of_lt_of_le hbw hb.size
          have RK := Lib.hid (show Rd b wr.drew (u8s (F k)) (As k) (Ls k) from (HRS.out k hlt).below hb.drew)
          clear hall hout hb KEEP
          go_wp2_with fail
          go_region_held3 (fun w' => w'.cell? (ad.add k) = some (.int .i64 (cs k)) ∧ w'.cell? (ad'.add k) = some (.slice (As k) (Ls k) (Cs k)))
            (first | exact ⟨hc1, hc2⟩ | exact ⟨(KEEP'.out _ (HB.out.drew.trans (hb2.mono HB.out.drew.size))).1, (KEEP'.out _ (HB.out.drew.trans (hb2.mono HB.out.drew.size))).2.1⟩ | assumption)
            ((go_at_call 53; refine (rmul22 p b wd n hg hw (cs k) (F k) (hF k) (As k) (Ls k) (Cs k) hLk wr.drew hblr RK.out).mono ?_; rintro e w2 ⟨t, v2, rfl, ht, A2, c2, rfl, hcc2, hrd2, hb2⟩))
          have hB2 := HB.out.drew.trans (hb2.mono HB.out.drew.size)
          have hblr2 := Nat.lt_of_lt_of_le hbw hB2.size
          obtain ⟨_, d2, d3⟩ := KEEP'.out w2 hB2
          have HB2 := Lib.hid hB2
          have HT := Lib.hid ht
          have HR2 := Lib.hid hrd2
          have HCC := Lib.hid (show Ls k ≤ c2 ∨ t = false from by cases t; exact Or.inr rfl; exact Or.inl hcc2.1)
          have HRA := Lib.hid (fun g (hg : g < w.heap.size) => hcc2.2 g (Nat.lt_of_lt_of_le hg HB.out.drew.size))
          have HBX := Lib.hid hb2
          clear hrd2 hb2 ht hB2 hc1 hc2 hc3 RK KEEP' hcc2
          cases t
          · have HE := Lib.hid (fun (w' : World) (hb' : Below w.heap.size w w') => rdot_false (p := p) (b := b) (n := n) (N := N) (N' := N) (cs := cs) (F := F) (fun h => Bool.noConfusion (HT.out.2 ⟨(h.2.2 k hlt).1, (h.2.2 k hlt).2.1⟩)) hb')
            go_wp2_with fail
            go_quiet (fail)
            go_wp2_with fail
            go_ret2
            exact HE.out _ (HB2.out.trans ((below_drewN' _ _).mono HB2.out.size))
          · by_cases hLe : Ls k = Ls 0
            · have hne : (((Ls k : Nat) : Int) != ((Ls 0 : Nat) : Int)) = false := by simp [hLe]
              have HLE := Lib.hid hLe
              have HNX := Lib.hid (show ∀ r, r < k + 1 → inB (M.ord p) (cs r) = true ∧ Ls r % n = 0 ∧ Ls r = Ls 0 from fun r hr => (Nat.lt_succ_iff_lt_or_eq.1 hr).elim (fun h => HALL.out r h) (fun h => by
                have := HT.out.1 rfl
                rw [h]; exact ⟨this.1, this.2, hLe⟩))
              clear hLe
              go_wp2_with fail
              go_quiet (fail)
              have HB3 := Lib.hid (HB2.out.trans ((below_drewN' w2 nq).mono HB2.out.size))
              have HR3 := Lib.hid (show Rd b (w2.drewN nq) (u8s (mulB p n (cs k) (F k))) A2 (Ls k) from HR2.out.below (below_drewN' w2 nq))
              have HRA3 := Lib.hid (show ∀ g, g < w.heap.size → Rd g (w2.drewN nq) (u8s (mulB p n (cs k) (F k))) A2 (Ls k) from fun g hg => (HRA.out g hg).below (below_drewN' w2 nq))
              have HX3 := Lib.hid (show Below wr.heap.size wr (w2.drewN nq) from (Below.refl wr.heap.size wr).drew.trans (HBX.out.trans ((below_drewN' w2 nq).mono HBX.out.size)))
              generalize w2.drewN nq = w3 at *
              have hbl3 := Nat.lt_of_lt_of_le hbw HB3.out.size
              clear HB2 HR2 HBX d2 d3 hne HT HRA
              by_cases hk0 : k = 0
              · have hkz : ((k : Int) == 0) = true := by simp [hk0]
                have HE := Lib.hid (show BytesTold b (Ls 0) (dotB p n cs F (k + 1)) w (.slice A2 (Ls k) c2) w3 from ⟨A2, c2, by rw [HLE.out], ⟨by rw [← HLE.out]; exact HCC.out.resolve_right Bool.noConfusion, by rw [hk0] at HRA3 ⊢; exact HRA3.out⟩, by rw [hk0] at HR3 ⊢; exact HR3.out, HB3.out⟩)
                clear hk0
                go_wp2_with fail
                exact ⟨⟨k + 1, hlt, by go_num, HNX.out, fun _ => HE.out, HB3.out⟩, by simp [intOf]; omega⟩
              · have hkz : ((k : Int) == 0) = false := by simp; omega
                obtain ⟨A0, c0, hu, _, hrd0, _⟩ := HOUT.out (by omega)
                subst hu
                have HR0 := Lib.hid (hrd0.below HX3.out)
                have HK0 := Lib.hid (show 0 < k by omega)
                have hL0 : Ls 0 ≤ 1000 := HLB.out 0 h0
                clear hk0 hrd0
                go_wp2_with fail
                refine (radd24 b _ _ (dotB_lt p n cs F k) (fun _ => byt_lt _ _ _) A0 A2 (Ls 0) (Ls k) c0 c2 hL0 _ hbl3 HR0.out HR3.out).mono ?_
                rintro e w4 ⟨t, v4, rfl, ht, hv4⟩
                obtain rfl : t = true := ht.2 HLE.out.symm
                obtain ⟨A4, c4, rfl, hc4, hrd4, hb4⟩ := hv4
                have HB4 := Lib.hid (HB3.out.trans (hb4.mono HB3.out.size))
                have HE := Lib.hid (show BytesTold b (Ls 0) (dotB p n cs F (k + 1)) w (.slice A4 (Ls 0) c4) w4 from ⟨A4, c4, rfl, ⟨hc4.1, fun g hg => (hc4.2 g (Nat.lt_of_lt_of_le hg HB3.out.size)).congr (fun j _ => by simp only [u8s]; rw [dotB_succ p n cs F HK0.out]; rfl)⟩, hrd4.congr (fun j _ => by simp only [u8s]; rw [dotB_succ p n cs F HK0.out]; rfl), HB4.out⟩)
                rw [show cond true (Ls 0) 0 = Ls 0 from rfl]
                clear hrd4 hb4 hc4 ht
                go_wp2_with fail
                exact ⟨⟨k + 1, hlt, by go_num, HNX.out, fun _ => HE.out, HB4.out⟩, by simp [intOf]; omega⟩
            · have hne : (((Ls k : Nat) : Int) != ((Ls 0 : Nat) : Int)) = true := by simp; omega
              have HE := Lib.hid (fun (w' : World) (hb' : Below w.heap.size w w') => rdot_false (p := p) (b := b) (n := n) (N := N) (N' := N) (cs := cs) (F := F) (fun h => absurd (h.2.2 k hlt).2.2 hLe) hb')
              clear hLe
              go_wp2_with fail
              go_quiet (fail)
              go_wp2_with fail
              go_ret2
              exact HE.out _ (HB2.out.trans ((below_drewN' _ _).mono HB2.out.size))
        · obtain rfl : k = N := by omega
          have HE := Lib.hid (show RDotAny p b n k k cs Ls F w (.returned (.tuple #[_, .bool true])) wr from ⟨true, _, rfl, ⟨fun _ => ⟨rfl, h0, hall⟩, fun _ => rfl⟩, hout h0⟩)
          clear hall hout hb
          go_wp2_with fail
          go_ret2
          exact HE.out
  · have hne : (((N : Nat) : Int) != ((N' : Nat) : Int)) = true := by simp; omega
    have HE := Lib.hid (show RDotAny p b n N N' cs Ls F w (.returned (.tuple #[nilS, .bool false])) w from ⟨false, _, rfl, by simp [DotOk, hNN], bytesTold_nil (Below.refl _ _)⟩)
    clear hNN hc hr hrs hL
    go_enter Tryz.func27, Tryz.ntmps27
    go_wp2_with fail
    go_ret2
    exact HE.out
end Go.Proofs.YtgbipbcejjlpiaaGreatDoor
