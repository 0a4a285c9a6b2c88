/- Layer 9: what the rows' condition on the package's table says of memory; a start that meets it. -/
import Derived.Test.YtgdgimknnjbieaaGreatDoorRows
import Derived.Test.YtgdgimknnjbieaaGreatDoorGxv
import Derived.ProofKit
import Derived.LaidMore
import Derived.OpenShut
import Derived.Stop.Joined
namespace Go.Proofs.YtgdgimknnjbieaaGreatDoor
open Go.ChangeShapes Go.WideShapes Go.ChangeAt Go.RowKit

abbrev laidT : List (String × DataW Unit) := [("gambrel/profile.table", Rows.laid_gambrel_profile_table)]
theorem gTab : Tryz.prog.globalNamed "gambrel/profile.table" = some 0 := by kernel_rfl
theorem tTab : (Tryz.prog.globals[0]?).map (·.type) = some 142 := by kernel_rfl
theorem cellsStr : Tryz.prog.cellsOf 9 = 1 := by kernel_rfl
theorem cellsInt : Tryz.prog.cellsOf 3 = 1 := by kernel_rfl
theorem cellsU32 : Tryz.prog.cellsOf 66 = 1 := by kernel_rfl
theorem cellsU8 : Tryz.prog.cellsOf 5 = 1 := by kernel_rfl
theorem cellsPr : Tryz.prog.cellsOf TPr = 5 := by kernel_rfl
theorem cellsTb : Tryz.prog.cellsOf 142 = 30 := by kernel_rfl

set_option maxRecDepth 100000 in
theorem row_of {H : Type} {enc : TypeId × Value → H} {W : World} {base : Nat} {sp : Nat → Bool} {held : Bool} {m : Nat} {x : DataW H × List MemPlace} {c0 c1 c2 c3 c4 : Value} {t : List UInt8} {b q l mx : Int}
    (h : DataW.trod enc Tryz.prog W base sp held m TPr [c0, c1, c2, c3, c4] = some x) (hx : x.1 = .agg [.lit (.string t), .lit (.int .i64 b), .lit (.int .u32 q), .lit (.int .u8 l), .lit (.int .i64 mx)]) :
    [c0, c1, c2, c3, c4] = [.string ⟨⟨t⟩⟩, .int .i64 b, .int .u32 q, .int .u8 l, .int .i64 mx] := by
  obtain ⟨xs, n, _, rfl, _, hlen, hg⟩ := DataW.trod_struct Tryz.underlying98 h
  match xs, hlen with
  | [y0, y1, y2, y3, y4], _ =>
    have h0 : DataW.trod enc Tryz.prog W base sp held n 9 (([c0, c1, c2, c3, c4].drop 0).take (Tryz.prog.cellsOf 9)) = some y0 := hg 0 _ rfl
    rw [cellsStr] at h0
    replace h0 : DataW.trod enc Tryz.prog W base sp held n 9 [c0] = some y0 := h0
    have h1 : DataW.trod enc Tryz.prog W base sp held n 3 (([c0, c1, c2, c3, c4].drop 1).take (Tryz.prog.cellsOf 3)) = some y1 := hg 1 _ rfl
    rw [cellsInt] at h1
    replace h1 : DataW.trod enc Tryz.prog W base sp held n 3 [c1] = some y1 := h1
    have h2 : DataW.trod enc Tryz.prog W base sp held n 66 (([c0, c1, c2, c3, c4].drop 2).take (Tryz.prog.cellsOf 66)) = some y2 := hg 2 _ rfl
    rw [cellsU32] at h2
    replace h2 : DataW.trod enc Tryz.prog W base sp held n 66 [c2] = some y2 := h2
    have h3 : DataW.trod enc Tryz.prog W base sp held n 5 (([c0, c1, c2, c3, c4].drop 3).take (Tryz.prog.cellsOf 5)) = some y3 := hg 3 _ rfl
    rw [cellsU8] at h3
    replace h3 : DataW.trod enc Tryz.prog W base sp held n 5 [c3] = some y3 := h3
    have h4 : DataW.trod enc Tryz.prog W base sp held n 3 (([c0, c1, c2, c3, c4].drop 4).take (Tryz.prog.cellsOf 3)) = some y4 := hg 4 _ rfl
    rw [cellsInt] at h4
    replace h4 : DataW.trod enc Tryz.prog W base sp held n 3 [c4] = some y4 := h4
    obtain ⟨s, e0, k0, _⟩ := DataW.trod_string Tryz.underlying9 h0
    obtain ⟨n1, e1, k1, _⟩ := DataW.trod_int Tryz.underlying3 h1
    obtain ⟨n2, e2, k2, _⟩ := DataW.trod_int Tryz.underlying66 h2
    obtain ⟨n3, e3, k3, _⟩ := DataW.trod_int Tryz.underlying5 h3
    obtain ⟨n4, e4, k4, _⟩ := DataW.trod_int Tryz.underlying3 h4
    subst k0 k1 k2 k3 k4
    simp at hx e0 e1 e2 e3 e4
    obtain ⟨x0, rfl, rfl, rfl, rfl⟩ := hx
    subst e0 e1 e2 e3 e4
    have : s = ⟨⟨t⟩⟩ := by
      obtain ⟨⟨l⟩⟩ := s
      simp at x0
      rw [x0]
    rw [this]

set_option maxRecDepth 100000 in
theorem tab_of_laid {W : World} (h : laidMetH Tryz.prog laidT W) : Tab W := by
  rw [MakeChecks.laidMetH_plain _ _ _ (by kernel_rfl)] at h
  obtain ⟨ps, ⟨g0, t0, cs0, f0, p0, q0, hg0, ht0, hv0, hd0, _, _⟩, _⟩ := h
  obtain rfl := Option.some.inj (gTab.symm.trans hg0)
  obtain rfl := Option.some.inj (tTab.symm.trans ht0)
  obtain ⟨xs, m1, _, hx1, hlen, hn, hel⟩ := DataW.trod_array Tryz.underlying142 hd0
  obtain ⟨l⟩ := cs0
  rw [cellsTb] at hlen
  simp only [cellsPr] at hel
  have hc : (⟨l⟩ : Array Value) = tabC := by
    match xs, hn with
    | [x0, x1, x2, x3, x4, x5], _ =>
      match l, hlen with
      | [a0, a1, a2, a3, a4, b0, b1, b2, b3, b4, c0, c1, c2, c3, c4, d0, d1, d2, d3, d4, e0, e1, e2, e3, e4, f0, f1, f2, f3, f4], _ =>
        simp only [Rows.laid_gambrel_profile_table, Prod.mk.injEq, DataW.agg.injEq, List.map_cons, List.map_nil, List.cons.injEq] at hx1
        obtain ⟨⟨h0, h1, h2, h3, h4, h5, _⟩, _⟩ := hx1
        have r0 := row_of (hel 0 (by decide)) h0.symm
        have r1 := row_of (hel 1 (by decide)) h1.symm
        have r2 := row_of (hel 2 (by decide)) h2.symm
        have r3 := row_of (hel 3 (by decide)) h3.symm
        have r4 := row_of (hel 4 (by decide)) h4.symm
        have r5 := row_of (hel 5 (by decide)) h5.symm
        simp only [List.cons.injEq] at r0 r1 r2 r3 r4 r5
        obtain ⟨rfl, rfl, rfl, rfl, rfl, _⟩ := r0
        obtain ⟨rfl, rfl, rfl, rfl, rfl, _⟩ := r1
        obtain ⟨rfl, rfl, rfl, rfl, rfl, _⟩ := r2
        obtain ⟨rfl, rfl, rfl, rfl, rfl, _⟩ := r3
        obtain ⟨rfl, rfl, rfl, rfl, rfl, _⟩ := r4
        obtain ⟨rfl, rfl, rfl, rfl, rfl, _⟩ := r5
        rfl
  rw [hc] at hv0
  unfold World.var? at hv0
  rw [gTab] at hv0
  simp only [Option.bind_some] at hv0
  split at hv0
  · rename_i cs t fr hh
    simp at hv0
    subst hv0
    exact ⟨t, fr, hh⟩
  · cases hv0

theorem door_met (os : Os) (args : Array Value) : laidMetH Tryz.prog laidT ((World.doorLaid Tryz.prog 400 os).forCall (fun _ _ => 0) ⟨#[], args, []⟩).memory :=
  laidMetH_of_parts3 (fuel := 8) (laidMet_of_run' 8 (by kernel_rfl) (by kernel_rfl)) (by kernel_rfl) (by kernel_rfl)
end Go.Proofs.YtgdgimknnjbieaaGreatDoor
