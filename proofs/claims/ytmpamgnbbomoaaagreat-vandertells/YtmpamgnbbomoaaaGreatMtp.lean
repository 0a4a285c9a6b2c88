/- Identities of any number, in one form; products of matrices: plain mathematics. -/
import Derived.Test.YtmpamgnbbomoaaaGreatMtn
import Derived.Test.YtmpamgnbbomoaaaGreatAlg
namespace Go.Proofs.YtmpamgnbbomoaaaGreat
open Go.RowKit

/-- how many rows the identity of m has -/
def idN (m : Nat) : Nat := if m ≤ 20 then m else 0
theorem identity_any (m : Nat) (w : World) : Calls Tryz.prog 40 #[.int .i64 m] w fun e w' => ∃ v, e = .returned v ∧ MatTold (idN m) idF (fun _ => m) w v w' := by
  by_cases h1 : 1 ≤ m
  · by_cases h2 : m ≤ 20
    · rw [idN, if_pos h2]
      exact identity_yes m ⟨h1, h2⟩ w
    · refine (identity_no m (by omega) w).mono ?_
      rintro e w' ⟨rfl, rfl⟩
      rw [idN, if_neg h2]
      exact ⟨_, rfl, MatTold.nil (Below.refl _ _)⟩
  · refine (identity_no m (by omega) w).mono ?_
    rintro e w' ⟨rfl, rfl⟩
    obtain rfl : m = 0 := by omega
    exact ⟨_, rfl, MatTold.nil (Below.refl _ _)⟩
theorem ridentity_any (b m : Nat) (w : World) (hbw : b < w.heap.size) : Calls Tryz.prog 45 #[.int .i64 m] w fun e w' => ∃ v, e = .returned v ∧ MTold b (idN m) idF (fun _ => m) w v w' := by
  by_cases h2 : m ≤ 20
  · rw [idN, if_pos h2]
    exact ridentity26 b m h2 w hbw
  · refine (ridentity_big m (by omega) w).mono ?_
    rintro e w' ⟨rfl, rfl⟩
    rw [idN, if_neg h2]
    exact ⟨_, rfl, MTold.nil (Below.refl _ _)⟩

theorem mulF_in {p wd : Nat} (hg : Good p wd) (F G : Nat → Nat → Int) (k r c : Nat) : 0 ≤ mulF p F G k r c ∧ mulF p F G k r c ≤ M.ord p := dot_in hg _ _ _
/-- a product may be a matrix -/
theorem mulF_may {p wd : Nat} (hg : Good p wd) (F G : Nat → Nat → Int) (k : Nat) {n m : Nat} (hn : side n) (hm : side m) : mayP (M.ord p) n (fun _ => m) (mulF p F G k) := ⟨hn, hm, fun r _ => ⟨rfl, fun j _ => mulF_in hg F G k r j⟩⟩
theorem idF_may {p wd : Nat} (hg : Good p wd) {n : Nat} (hn : side n) : mayP (M.ord p) n (fun _ => n) idF := ⟨hn, hn, fun r _ => ⟨rfl, fun j _ => by
  have := hg.bounds
  unfold idF
  split <;> omega⟩⟩
/-- products don't hang on which two are first -/
theorem mulF_assoc {p wd : Nat} (hg : Good p wd) {F G H : Nat → Nat → Int} {n k m q : Nat} (hF : ∀ r, r < n → allIn (M.ord p) (F r) k) (hG : ∀ r, r < k → allIn (M.ord p) (G r) m) (hH : ∀ r, r < m → allIn (M.ord p) (H r) q) (r : Nat) (hr : r < n) (c : Nat) (hc : c < q) :
    mulF p (mulF p F G k) H m r c = mulF p F (mulF p G H m) k r c := by
  unfold mulF
  exact congrArg _ (dot_assoc hg (hF r hr) hG (fun j hj => hH j hj c hc))
/-- the identity changes nothing -/
theorem mulF_id {p wd : Nat} (hg : Good p wd) {F : Nat → Nat → Int} {n m : Nat} (hF : ∀ r, r < n → allIn (M.ord p) (F r) m) (r : Nat) (hr : r < n) (c : Nat) (hc : c < m) : mulF p idF F n r c = F r c :=
  dot_id hg hr (fun j hj => hF j hj c hc)
end Go.Proofs.YtmpamgnbbomoaaaGreat
