/- Layer 13: what the rows' condition on the library's variables says of memory; a start that meets it. -/
import Derived.Test.YtbhpfdikkknijaaDoorRows
import Derived.Test.YtbhpfdikkknijaaDoorCrl
import Derived.ProofKit
import Derived.LaidMore
import Derived.OpenShut
import Derived.Stop.Joined
import Derived.Stop.LaidErr
namespace Go.Proofs.YtbhpfdikkknijaaDoor
open Go.ChangeShapes Go.WideShapes Go.ChangeAt Go.RowKit

abbrev laidT : List (String × DataW Unit) := [("math/bits.deBruijn32tab", Rows.laid_math_bits_deBruijn32tab), ("math/bits.deBruijn64tab", Rows.laid_math_bits_deBruijn64tab), ("internal/strconv.uint64pow10", Rows.laid_internal_strconv_uint64pow10), ("strconv.ErrRange", Rows.laid_strconv_ErrRange), ("strconv.ErrSyntax", Rows.laid_strconv_ErrSyntax)]
theorem gES : Tryd.prog.globalNamed "strconv.ErrSyntax" = some 0 := by kernel_rfl
theorem gER : Tryd.prog.globalNamed "strconv.ErrRange" = some 1 := by kernel_rfl
theorem gDB : Tryd.prog.globalNamed "math/bits.deBruijn64tab" = some 4 := by kernel_rfl
theorem tES : (Tryd.prog.globals[0]?).map (·.type) = some 46 := by kernel_rfl
theorem tER : (Tryd.prog.globals[1]?).map (·.type) = some 46 := by kernel_rfl
theorem tDB : (Tryd.prog.globals[4]?).map (·.type) = some 80 := by kernel_rfl
theorem cellsES : Tryd.prog.cellsOf 76 = 1 := by kernel_rfl
theorem cellsST : Tryd.prog.cellsOf 9 = 1 := by kernel_rfl
theorem cells1B : Tryd.prog.cellsOf 5 = 1 := by kernel_rfl
theorem starES : "*" ++ "errors.errorString" = "*errors.errorString" := by decide
theorem rowES (u : TypeId) (h : Tryd.prog.typeName? 3 u = some "*errors.errorString") : u = 74 :=
  typeName_ptr_named (nm := "errors.errorString") (by rw [starES]; kernel_rfl) (by kernel_rfl) (by decide) u (by rw [starES]; exact h)

set_option maxRecDepth 100000 in
theorem env_of_laid {W : World} (h : laidMetH Tryd.prog laidT W) : Env W := by
  rw [MakeChecks.laidMetH_plain _ _ _ (by kernel_rfl)] at h
  obtain ⟨a0, _, hv0, _, _, _⟩ := laid_sentinel h.tail.tail.tail.tail gES tES Tryd.underlying46 rowES Tryd.underlying74 Tryd.underlying76 rfl rfl Tryd.underlying9 cellsES cellsST
  obtain ⟨a1, _, hv1, _, _, _⟩ := laid_sentinel h.tail.tail.tail gER tER Tryd.underlying46 rowES Tryd.underlying74 Tryd.underlying76 rfl rfl Tryd.underlying9 cellsES cellsST
  refine ⟨⟨_, _, (World.var?_cell gES hv0 0).trans rfl⟩, ⟨_, _, (World.var?_cell gER hv1 0).trans rfl⟩, ?_⟩
  obtain ⟨ps, ⟨g0, t0, cs0, f0, p0, q0, hg0, ht0, hv, hd0, _, _⟩, _⟩ := h.tail
  obtain rfl := Option.some.inj (gDB.symm.trans hg0)
  obtain rfl := Option.some.inj (tDB.symm.trans ht0)
  obtain ⟨xs, m1, _, hx1, hlen, hn, hel⟩ := DataW.trod_array Tryd.underlying80 hd0
  obtain ⟨l⟩ := cs0
  have h15 := hel 15 (by decide)
  rw [cells1B] at h15
  rw [List.getElem?_eq_getElem (by omega)] at h15
  obtain ⟨n, hc, hz, _⟩ := DataW.trod_int Tryd.underlying5 h15
  have hx : xs.map (·.1) = [.lit (.int .u8 0), .lit (.int .u8 1), .lit (.int .u8 56), .lit (.int .u8 2), .lit (.int .u8 57), .lit (.int .u8 49), .lit (.int .u8 28), .lit (.int .u8 3), .lit (.int .u8 61), .lit (.int .u8 58), .lit (.int .u8 42), .lit (.int .u8 50), .lit (.int .u8 38), .lit (.int .u8 29), .lit (.int .u8 17), .lit (.int .u8 4)] ++ (xs.map (·.1)).drop 16 := by
    have h5 := hx1
    simp only [Rows.laid_math_bits_deBruijn64tab, Prod.mk.injEq, DataW.agg.injEq] at h5
    rw [← h5.1]
    rfl
  have h4 : (xs.map (·.1))[15]? = some (.lit (.int .u8 4)) := by rw [hx]; rfl
  rw [List.getElem?_map, List.getElem?_eq_getElem (by omega), hz] at h4
  simp at h4
  subst h4
  rw [World.var?_cell gDB hv 15]
  have h6 : (List.take 1 (List.drop (15 * 1) l))[0]? = some (.int .u8 4) := by rw [hc]; rfl
  rw [List.getElem?_take, if_pos (by omega), List.getElem?_drop] at h6
  simpa using h6

theorem door_met (os : Os) (args : Array Value) : laidMetH Tryd.prog laidT ((World.doorLaid Tryd.prog 400 os).forCall (fun _ _ => 0) ⟨#[], args, []⟩).memory :=
  laidMetH_of_parts3 (fuel := 8) (laidMet_of_run' 8 (by kernel_rfl) (by kernel_rfl)) (by kernel_rfl) (by kernel_rfl)
end Go.Proofs.YtbhpfdikkknijaaDoor
