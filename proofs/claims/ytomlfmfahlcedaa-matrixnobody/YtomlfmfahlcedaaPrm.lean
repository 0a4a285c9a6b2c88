/- The contract of poly.primesOf. -/
import Derived.Test.YtomlfmfahlcedaaMod
import Derived.Test.YtomlfmfahlcedaaPrimes
namespace Go.Proofs.Ytomlfmfahlcedaa
open Go.RowKit

theorem info23 : (Try.prog.info? 28).map (fun i => (i.zero, i.size, i.bytes)) = some (some (.int .u32 0), 1, 4) := by kernel_rfl

def u32s (l : List Nat) : List Value := l.map fun (x : Nat) => Value.int .u32 (x : Int)

def PrmAt (N : Nat) (w wr : World) (tn v tq : Value) : Prop :=
  ∃ (n q : Nat) (l : List Nat), tn = .int .u32 n ∧ tq = .int .u32 q ∧ n ≤ 65535 ∧ q ≤ 65536 ∧ M.PrimInv N n q l ∧ wr.ownsRow w.heap.size 28 1 v l.length (u32s l) ∧ Below w.heap.size w wr

def InrAt (N q : Nat) (l : List Nat) (tn : Value) : Prop := ∃ n : Nat, tn = .int .u32 n ∧ n ≤ 65535 ∧ M.InnerInv N n q l

/-- what primesOf leaves: the primes of n, in memory of its own -/
def PrmPost (N : Nat) (w : World) (e : Ending) (w' : World) : Prop :=
  ∃ (v : Value) (l : List Nat), e = .returned v ∧ M.Primes N l ∧ l.length ≤ 65535 ∧ w'.ownsRow w.heap.size 28 1 v l.length (u32s l) ∧ Below w.heap.size w w'

theorem u32s_snoc (l : List Nat) (q : Nat) : u32s (l ++ [q]) = u32s l ++ [.int .u32 (q : Int)] := by simp [u32s]

set_option maxRecDepth 100000 in
set_option maxHeartbeats 2000000 in
theorem prm28 (n : Int) (w : World) (n0 : 1 ≤ n) (n1 : n ≤ 65535) :
    Calls Try.prog 48 #[.int .u32 n] w (PrmPost n.toNat w) := by
  obtain ⟨i0, hi, hz0, hz1, hz2⟩ := info_parts info23
  obtain ⟨N, rfl⟩ := Int.eq_ofNat_of_zero_le (show 0 ≤ n by omega)
  go_enter Try.func48, Try.ntmps48
  go_wp2_with fail
  go_loopw [0, 3, 4] (fun tn v tq wr => PrmAt N w wr tn v tq) (fun _ _ tq _ => 65536 - (intOf tq).toNat)
  case atStart => exact ⟨N, 2, [], rfl, rfl, by omega, by omega, M.PrimInv.start (by omega), (World.ownsRow_nil w w.heap.size 28 1 :), Below.refl _ _⟩
  case round =>
    obtain ⟨n, q, l, rfl, rfl, hn, hq, hinv, hown, hb⟩ := hrel
    have HI := Lib.hid hinv
    have HO := Lib.hid hown
    have HB := Lib.hid hb
    have hp := hinv.pos
    have h2 := hinv.two
    have hln := hinv.len
    clear hown
    by_cases hlt : q ≤ n
    · by_cases hd : n % q = 0
      · have hid := hinv.inner hd
        have HID := Lib.hid hid
        have hsz := hb.size
        clear hid hinv hb
        go_wp2_with (at_builtin; refine wpList_append_own _ rfl _ _ 93 rfl w.heap.size 28 i0 (.int .u32 0) 1 4 Try.underlying93 hi hz0 hz1 hz2 rfl (by decide) _ _ _ rfl (HO.out.alloc _) ⟨wr.heap.size, 0, none⟩ 1 1 [.int .u32 (q : Int)] rfl rfl ?c1 ?c2 ?c3 ?c4 ?c5 ?_)
        case c1 =>
          intro j u hj
          match j, hj with
          | 0, hj => simp at hj; subst hj; simp [Addr.add]
        case c2 => intro u hu; simp at hu; subst hu; rfl
        case c3 => unfold maxLen; omega
        case c4 => omega
        case c5 => simp; omega
        intro v' w1 hown' hgrow _
        have hb1 := (HB.out.alloc hsz (.cells #[.int .u32 (q : Int)] 28)).grown hgrow (by simp; omega) (fun k hk => (HO.out.lt k hk).1)
        have HB1 := Lib.hid hb1
        rw [← u32s_snoc, show l.length + 1 = (l ++ [q]).length by simp] at hown'
        have HO1 := Lib.hid hown'
        clear hown' hgrow hb1 HO HB
        go_wp2_with fail
        go_loop [0] (fun tn => InrAt N q (l ++ [q]) tn) (fun tn => (intOf tn).toNat)
        case atStart => exact ⟨n, rfl, hn, HID.out⟩
        case round =>
          obtain ⟨m, rfl, hm, hin⟩ := hrel
          have HIN := Lib.hid hin
          have hp := hin.pos
          clear hin hd
          by_cases hd : m % q = 0
          · have hs := HIN.out.step hd
            have HS := Lib.hid hs
            have hlt2 : m / q < m := Nat.div_lt_self hp h2
            have HE := Lib.hid (show ((m : Int) / (q : Int) % 4294967296) = ((m / q : Nat) : Int) by rw [← Int.natCast_ediv]; generalize m / q = z at *; omega)
            clear hs
            go_wp2_with fail
            rw [HE.out]
            exact ⟨⟨m / q, rfl, by omega, HS.out⟩, by show ((m / q : Nat) : Int).toNat < ((m : Nat) : Int).toNat; rw [Int.toNat_natCast, Int.toNat_natCast]; exact hlt2⟩
          · have hs := HIN.out.done hd
            have HS := Lib.hid hs
            clear hs
            go_wp2_with fail
            exact ⟨⟨m, q + 1, l ++ [q], rfl, by go_num, hm, by omega, HS.out, HO1.out, HB1.out⟩, by simp [intOf]; omega⟩
      · have hs := hinv.skip hd
        have HS := Lib.hid hs
        clear hs hinv hb
        go_wp2_with fail
        exact ⟨⟨n, q + 1, l, rfl, by go_num, hn, by omega, HS.out, HO.out, HB.out⟩, by simp [intOf]; omega⟩
    · have hs := hinv.primes (by omega)
      have HS := Lib.hid hs
      clear hs hinv hb
      go_wp2_with fail
      go_ret
      exact ⟨_, l, rfl, HS.out, by omega, HO.out, HB.out⟩
end Go.Proofs.Ytomlfmfahlcedaa
