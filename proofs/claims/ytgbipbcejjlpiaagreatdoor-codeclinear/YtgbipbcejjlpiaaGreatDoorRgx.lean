/- 's[k:]', as one equation. -/
import Derived.Test.YtgbipbcejjlpiaaGreatDoorRgw
namespace Go.Proofs.YtgbipbcejjlpiaaGreatDoor
open Go.RowKit

theorem sizeB (w : World) : (sizeOf TB).run Tryz.prog w = .ok 1 w := by
  obtain ⟨i0, hi, _, hz1, _⟩ := info_parts infoB
  simp [sizeOf, typeInfo, hi, hz1]
theorem sizeS (w : World) : (sizeOf TBs).run Tryz.prog w = .ok 1 w := by
  obtain ⟨i0, hi, _, hz1, _⟩ := info_parts infoS
  simp [sizeOf, typeInfo, hi, hz1]
theorem elemB : Tryz.prog.elem TBs = TB := by kernel_rfl
theorem elemS : Tryz.prog.elem TRs = TBs := by kernel_rfl

theorem run_fromB (a : Option Addr) (len cap k : Nat) (hk : k ≤ len) (w : World) : (Instr.slice TBs (.slice a len cap) (some (.int .i64 k)) none none).run Tryz.prog w = .ok (.slice (if cap = k then a else a.map (·.add k)) (len - k) (cap - k)) w := by
  have hu : Tryz.prog.underlying TBs = some (.slice (Tryz.prog.elem TBs)) := by rw [elemB]; exact Tryz.underlying34
  rw [run_slice_l w TBs a len cap hu .i64 k (by omega) (by omega), elemB, sizeB]
  simp [Result.andThen, sliced]
theorem run_fromS (a : Option Addr) (len cap k : Nat) (hk : k ≤ len) (w : World) : (Instr.slice TRs (.slice a len cap) (some (.int .i64 k)) none none).run Tryz.prog w = .ok (.slice (if cap = k then a else a.map (·.add k)) (len - k) (cap - k)) w := by
  have hu : Tryz.prog.underlying TRs = some (.slice (Tryz.prog.elem TRs)) := by rw [elemS]; exact Tryz.underlying24
  rw [run_slice_l w TRs a len cap hu .i64 k (by omega) (by omega), elemS, sizeS]
  simp [Result.andThen, sliced]
theorem run_atB (a : Option Addr) (len cap k : Nat) (hk : k ≤ len) (w : World) : (Instr.sliceAt TBs (.slice a len cap) (some (.int .i64 k)) none none).run Tryz.prog w = .ok (.slice (if cap = k then a else a.map (·.add k)) (len - k) (cap - k)) w := by
  have hu : Tryz.prog.underlying TBs = some (.slice (Tryz.prog.elem TBs)) := by rw [elemB]; exact Tryz.underlying34
  rw [run_sliceAt_slice w TBs _ _ _ _ hu, run_fromB a len cap k hk]
theorem run_atS (a : Option Addr) (len cap k : Nat) (hk : k ≤ len) (w : World) : (Instr.sliceAt TRs (.slice a len cap) (some (.int .i64 k)) none none).run Tryz.prog w = .ok (.slice (if cap = k then a else a.map (·.add k)) (len - k) (cap - k)) w := by
  have hu : Tryz.prog.underlying TRs = some (.slice (Tryz.prog.elem TRs)) := by rw [elemS]; exact Tryz.underlying24
  rw [run_sliceAt_slice w TRs _ _ _ _ hu, run_fromS a len cap k hk]
theorem run_tailS (a : Option Addr) (len cap : Nat) (hk : 1 ≤ len) (w : World) : (Instr.slice TRs (.slice a len cap) (some (.int .i64 1)) none none).run Tryz.prog w = .ok (.slice (if cap = 1 then a else a.map (·.add 1)) (len - 1) (cap - 1)) w := run_fromS a len cap 1 hk w
theorem run_tailAtS (a : Option Addr) (len cap : Nat) (hk : 1 ≤ len) (w : World) : (Instr.sliceAt TRs (.slice a len cap) (some (.int .i64 1)) none none).run Tryz.prog w = .ok (.slice (if cap = 1 then a else a.map (·.add 1)) (len - 1) (cap - 1)) w := run_atS a len cap 1 hk w
end Go.Proofs.YtgbipbcejjlpiaaGreatDoor
