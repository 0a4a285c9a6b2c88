/- Products of bytes: plain mathematics. -/
import Derived.Test.YtgbipbcejjlpiaaGreatDoorRga
namespace Go.Proofs.YtgbipbcejjlpiaaGreatDoor

theorem mulB_lt (p n : Nat) (a : Int) (f : Nat → Nat) (i : Nat) : mulB p n a f i < 256 := byt_lt _ _ _

theorem mulB_mulB {p wd n : Nat} (hg : Good p wd) (hw : Wide wd n (M.ord p)) (a c : Int) (f : Nat → Nat) : mulB p n a (mulB p n c f) = byt n (fun j => fmul p a (fmul p c (word n f j))) := by
  show byt n (fun j => fmul p a (word n (byt n (fun j => fmul p c (word n f j))) j)) = _
  congr 1
  funext j
  rw [word_byt hw (l := fun j => fmul p c (word n f j)) j (fmul_le hg _ _).1 (fmul_le hg _ _).2]

/-- what was multiplied by a number that isn't 0, by its inverse -/
theorem fmul_back {p wd : Nat} (hg : Good p wd) {m x : Int} (m0 : 1 ≤ m) (m1 : m ≤ M.ord p) (x0 : 0 ≤ x) (x1 : x ≤ M.ord p) : fmul p (M.inv p m.toNat : Nat) (fmul p m x) = x := by
  have hi := M.inv_range hg.prim (a := m.toNat) (by omega) (by omega)
  have hm := fmul_le hg m x
  rw [fmul_in (by omega) (by omega) hm.1 hm.2, fmul_in (by omega) m1 x0 x1, Int.toNat_natCast, Int.toNat_natCast, M.mul_comm m.toNat, M.mul_comm (M.inv p m.toNat), M.mul_back hg.prim (by omega) (by omega) (by omega)]
  omega
theorem mulB_back {p wd n : Nat} (hg : Good p wd) (hw : Wide wd n (M.ord p)) {m : Int} (m0 : 1 ≤ m) (m1 : m ≤ M.ord p) {f : Nat → Nat} (hf : ∀ j, f j < 256) (i : Nat) : mulB p n (M.inv p m.toNat : Nat) (mulB p n m f) i = f i := by
  rw [mulB_mulB hg hw, ← byt_word hw hf i]
  congr 1
  funext j
  have := word_le hw hf j
  rw [fmul_back hg m0 m1 (by omega) (by omega)]

/-- a product by a product is one behind the other -/
theorem fmul_fmul {p wd : Nat} (hg : Good p wd) {a c x : Int} (a0 : 0 ≤ a) (a1 : a ≤ M.ord p) (c0 : 0 ≤ c) (c1 : c ≤ M.ord p) (x0 : 0 ≤ x) (x1 : x ≤ M.ord p) : fmul p c (fmul p a x) = fmul p (fmul p a c) x := by
  have h1 := fmul_le hg a x
  have h2 := fmul_le hg a c
  rw [fmul_in c0 c1 h1.1 h1.2, fmul_in h2.1 h2.2 x0 x1, fmul_in a0 a1 x0 x1, fmul_in a0 a1 c0 c1, Int.toNat_natCast, Int.toNat_natCast]
  congr 1
  rw [M.mul_comm a.toNat c.toNat, M.mul_assoc_md]
theorem mulB_prod {p wd n : Nat} (hg : Good p wd) (hw : Wide wd n (M.ord p)) {a c : Int} (a0 : 0 ≤ a) (a1 : a ≤ M.ord p) (c0 : 0 ≤ c) (c1 : c ≤ M.ord p) {f : Nat → Nat} (hf : ∀ j, f j < 256) : mulB p n c (mulB p n a f) = mulB p n (fmul p a c) f := by
  rw [mulB_mulB hg hw]
  unfold mulB
  congr 1
  funext j
  have := word_le hw hf j
  rw [fmul_fmul hg a0 a1 c0 c1 (by omega) (by omega)]

/-- a product of a sum is the sum of the products -/
theorem fmul_xor {p wd : Nat} (hg : Good p wd) {a : Int} (a0 : 0 ≤ a) (a1 : a ≤ M.ord p) {x y : Nat} (hx : x ≤ M.ord p) (hy : y ≤ M.ord p) : fmul p a ((x ^^^ y : Nat) : Int) = ((fmul p a x).toNat ^^^ (fmul p a y).toNat : Nat) := by
  have hxy := M.xor_le hg.prim.1 hx hy
  rw [fmul_in a0 a1 (by omega) (by omega), fmul_in a0 a1 (by omega) (by omega), fmul_in a0 a1 (by omega) (by omega)]
  simp only [Int.toNat_natCast]
  rw [M.mul_lin a.toNat x y]
  congr 1
  exact M.md_lin p _ _
theorem xor_mod8 (x y : Nat) : (x ^^^ y) % 256 = (x % 256) ^^^ (y % 256) := Nat.xor_mod_two_pow (n := 8)
theorem xor_div8 (x y : Nat) : (x ^^^ y) / 256 = (x / 256) ^^^ (y / 256) := Nat.xor_div_two_pow (n := 8)
theorem byt_xor {n : Nat} (u v : Nat → Nat) (i : Nat) : byt n (fun j => ((u j ^^^ v j : Nat) : Int)) i = byt n (fun j => (u j : Int)) i ^^^ byt n (fun j => (v j : Int)) i := by
  unfold byt
  simp only [Int.toNat_natCast]
  split
  · exact xor_mod8 _ _
  · split
    · exact xor_mod8 _ _
    · rw [xor_div8, xor_mod8]
theorem word_xor {wd n c : Nat} (hw : Wide wd n c) {f g : Nat → Nat} (hf : ∀ j, f j < 256) (hg : ∀ j, g j < 256) (j : Nat) : word n (fun i => f i ^^^ g i) j = word n f j ^^^ word n g j := by
  rcases hw with ⟨rfl, rfl, rfl⟩ | ⟨rfl, rfl, rfl⟩
  · simp [word]
  · have h1 := hf (2 * j)
    have h2 := hg (2 * j)
    have hz : f (2 * j) ^^^ g (2 * j) < 2 ^ 8 := Nat.xor_lt_two_pow (by omega) (by omega)
    simp only [word]
    have e : ∀ a b : Nat, a < 256 → a + 256 * b = b <<< 8 ^^^ a := fun a b ha => by
      rw [Nat.shiftLeft_eq]
      have hm := xor_mod8 (b * 256) a
      have hd := xor_div8 (b * 256) a
      rw [Nat.mul_mod_left, Nat.mod_eq_of_lt ha, Nat.zero_xor] at hm
      rw [Nat.mul_div_cancel _ (by omega), Nat.div_eq_of_lt ha, Nat.xor_zero] at hd
      have := Nat.div_add_mod (b * 256 ^^^ a) 256
      rw [hm, hd] at this
      show a + 256 * b = b * 256 ^^^ a
      omega
    simp
    rw [e _ _ (by omega), e _ _ h1, e _ _ h2, Nat.shiftLeft_xor_distrib]
    ac_rfl
theorem mulB_xor {p wd n : Nat} (hg : Good p wd) (hw : Wide wd n (M.ord p)) {a : Int} (a0 : 0 ≤ a) (a1 : a ≤ M.ord p) {f g : Nat → Nat} (hf : ∀ j, f j < 256) (hg' : ∀ j, g j < 256) (i : Nat) :
    mulB p n a (fun j => f j ^^^ g j) i = mulB p n a f i ^^^ mulB p n a g i := by
  unfold mulB
  have e : ∀ h : Nat → Nat, (fun j => fmul p a (word n h j)) = fun j => (((fmul p a (word n h j)).toNat : Nat) : Int) := fun h => funext (fun j => by have := (fmul_le hg a (word n h j)).1; omega)
  rw [e f, e g, ← byt_xor]
  congr 1
  funext j
  rw [word_xor hw hf hg', fmul_xor hg a0 a1 (word_le hw hf j) (word_le hw hg' j)]
end Go.Proofs.YtgbipbcejjlpiaaGreatDoor
