/- Plain mathematics, of no program: what the law PolyField asks of six known polynomials: reckoned. -/
import Derived.Test.YtaofcngdpceklaaFacts
import Derived.Test.YtaofcngdpceklaaField
namespace Go.Proofs.Ytaofcngdpceklaa.M

theorem irr19 : irr 19 = true := by decide +kernel
theorem irr7 : irr 7 = true := by decide +kernel
theorem irr299 : irr 299 = true := by decide +kernel

theorem fermat285 {x : Nat} (hx : x < 2 ^ 8) (h0 : x ≠ 0) : pw x 285 (2 ^ 8 - 1) = 1 :=
  fermat irr285 (by decide +kernel) (show x < 2 ^ (blen 285 - 1) from hx) h0
theorem zero285 {x y : Nat} (hx : x < 2 ^ 8) (hy : y < 2 ^ 8) (h0 : x ≠ 0) (h1 : y ≠ 0) : md (mul x y) 285 ≠ 0 :=
  field irr285 (by rw [md_small (by decide) (show x < 2 ^ (blen 285 - 1) from hx)]; exact h0) (by rw [md_small (by decide) (show y < 2 ^ (blen 285 - 1) from hy)]; exact h1)

theorem fermat283 {x : Nat} (hx : x < 2 ^ 8) (h0 : x ≠ 0) : pw x 283 (2 ^ 8 - 1) = 1 :=
  fermat irr283 (by decide +kernel) (show x < 2 ^ (blen 283 - 1) from hx) h0
theorem zero283 {x y : Nat} (hx : x < 2 ^ 8) (hy : y < 2 ^ 8) (h0 : x ≠ 0) (h1 : y ≠ 0) : md (mul x y) 283 ≠ 0 :=
  field irr283 (by rw [md_small (by decide) (show x < 2 ^ (blen 283 - 1) from hx)]; exact h0) (by rw [md_small (by decide) (show y < 2 ^ (blen 283 - 1) from hy)]; exact h1)

theorem fermat69643 {x : Nat} (hx : x < 2 ^ 16) (h0 : x ≠ 0) : pw x 69643 (2 ^ 16 - 1) = 1 :=
  fermat irr69643 (by decide +kernel) (show x < 2 ^ (blen 69643 - 1) from hx) h0
theorem zero69643 {x y : Nat} (hx : x < 2 ^ 16) (hy : y < 2 ^ 16) (h0 : x ≠ 0) (h1 : y ≠ 0) : md (mul x y) 69643 ≠ 0 :=
  field irr69643 (by rw [md_small (by decide) (show x < 2 ^ (blen 69643 - 1) from hx)]; exact h0) (by rw [md_small (by decide) (show y < 2 ^ (blen 69643 - 1) from hy)]; exact h1)

theorem fermat19 {x : Nat} (hx : x < 2 ^ 4) (h0 : x ≠ 0) : pw x 19 (2 ^ 4 - 1) = 1 :=
  fermat irr19 (by decide +kernel) (show x < 2 ^ (blen 19 - 1) from hx) h0
theorem zero19 {x y : Nat} (hx : x < 2 ^ 4) (hy : y < 2 ^ 4) (h0 : x ≠ 0) (h1 : y ≠ 0) : md (mul x y) 19 ≠ 0 :=
  field irr19 (by rw [md_small (by decide) (show x < 2 ^ (blen 19 - 1) from hx)]; exact h0) (by rw [md_small (by decide) (show y < 2 ^ (blen 19 - 1) from hy)]; exact h1)

theorem fermat7 {x : Nat} (hx : x < 2 ^ 2) (h0 : x ≠ 0) : pw x 7 (2 ^ 2 - 1) = 1 :=
  fermat irr7 (by decide +kernel) (show x < 2 ^ (blen 7 - 1) from hx) h0
theorem zero7 {x y : Nat} (hx : x < 2 ^ 2) (hy : y < 2 ^ 2) (h0 : x ≠ 0) (h1 : y ≠ 0) : md (mul x y) 7 ≠ 0 :=
  field irr7 (by rw [md_small (by decide) (show x < 2 ^ (blen 7 - 1) from hx)]; exact h0) (by rw [md_small (by decide) (show y < 2 ^ (blen 7 - 1) from hy)]; exact h1)

theorem fermat299 {x : Nat} (hx : x < 2 ^ 8) (h0 : x ≠ 0) : pw x 299 (2 ^ 8 - 1) = 1 :=
  fermat irr299 (by decide +kernel) (show x < 2 ^ (blen 299 - 1) from hx) h0
theorem zero299 {x y : Nat} (hx : x < 2 ^ 8) (hy : y < 2 ^ 8) (h0 : x ≠ 0) (h1 : y ≠ 0) : md (mul x y) 299 ≠ 0 :=
  field irr299 (by rw [md_small (by decide) (show x < 2 ^ (blen 299 - 1) from hx)]; exact h0) (by rw [md_small (by decide) (show y < 2 ^ (blen 299 - 1) from hy)]; exact h1)

end Go.Proofs.Ytaofcngdpceklaa.M
