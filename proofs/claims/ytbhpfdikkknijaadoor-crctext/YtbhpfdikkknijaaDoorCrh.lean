/- A string as bytes: '[]byte(s)'. -/
import Derived.Test.YtbhpfdikkknijaaDoorCrd
import Derived.Lib.ConvBytes
namespace Go.Proofs.YtbhpfdikkknijaaDoor
open Go.RowKit

theorem strF_byte {f : Nat → Nat} (hf : ∀ j, f j < 256) {n j : Nat} (hj : j < n) : ((strF f n).data.toList.getD j 0).toNat = f j := by
  have := hf j
  simp [strF, strOfNums, List.getD, hj, UInt8.toNat_ofNat']
  omega
theorem str_rd {f : Nat → Nat} (hf : ∀ j, f j < 256) (n b : Nat) (w : World) (hb : b ≠ w.heap.size) :
    ∃ A c w', (convert TStr TBs (.string (strF f n))).run Tryd.prog w = .ok (.slice A n c) w' ∧ Below w.heap.size w w' ∧ Rd b w' (u8s f) A n := by
  have h := Lib.run_convert_string_bytes (P := Tryd.prog) w TStr TBs TB (strF f n) Tryd.underlying9 Tryd.underlying23 Tryd.underlying5
  rw [strF_size] at h
  refine ⟨_, _, _, h, ⟨?_, ?_, ?_, ?_, ?_⟩, fun hn => ⟨_, rfl, fun e => hb e.symm, ?_, fun j hj => ?_⟩⟩
  · simp [Lib.bytesWorld, World.freeze]; rfl
  · simp [Lib.bytesWorld, World.freeze]
  · simp [Lib.bytesWorld, World.freeze]; rfl
  · rw [Lib.bytesWorld_size]; omega
  · exact fun k hk => Lib.bytesWorld_at_old w TB _ k hk
  · show w.heap.size < _
    rw [Lib.bytesWorld_size]; omega
  · have h5 := Lib.bytesWorld_cell w TB (strF f n) j (by rw [strF_size]; exact hj)
    rw [strF_byte hf hj] at h5
    have e : (⟨w.heap.size, 0, none⟩ : Addr).add j = ⟨w.heap.size, j, none⟩ := by
      unfold Addr.add
      split
      · subst_vars; rfl
      · simp
    rw [e]
    exact h5
end Go.Proofs.YtbhpfdikkknijaaDoor
