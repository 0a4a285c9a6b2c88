package poly

import "testing"

// wide is Mul, checked to be small enough to be a factor again.
func wide(t *testing.T, a, b uint32) uint32 {
	product := Mul(a, b)
	if product>>32 != 0 {
		t.Fatalf("Mul(%#x, %#x) = %#x", a, b, product)
	}
	return uint32(product)
}

func TestLawsOfARing(t *testing.T) {
	r := numbers()
	for range 5000 {
		a, b, c := r.Uint32(), r.Uint32(), r.Uint32()
		if Mul(a, b) != Mul(b, a) {
			t.Errorf("turned round: %#x, %#x", a, b)
		}
		if Mul(a, b^c) != Mul(a, b)^Mul(a, c) || Mul(a^b, c) != Mul(a, c)^Mul(b, c) {
			t.Errorf("spread: %#x, %#x, %#x", a, b, c)
		}
		if Mul(a, 1) != uint64(a) || Mul(1, a) != uint64(a) || Mul(a, 0) != 0 || Mul(0, a) != 0 {
			t.Errorf("by 1 and by 0: %#x", a)
		}
		if a, b, c := a>>16, b>>16, c>>16; Mul(wide(t, a, b), c) != Mul(a, wide(t, b, c)) {
			t.Errorf("of three: %#x, %#x, %#x", a, b, c)
		}
		if a != 0 && b != 0 && Deg(Mul(a, b)) != Deg(uint64(a))+Deg(uint64(b)) {
			t.Errorf("degrees: %#x, %#x", a, b)
		}
	}
}

func TestLawsOfARingModuloAny(t *testing.T) {
	r := numbers()
	for range 20000 {
		a, b, c, p := r.Uint32(), r.Uint32(), r.Uint32(), r.Uint32()>>r.Intn(32)
		if MulMod(a, b, p) != MulMod(b, a, p) {
			t.Errorf("turned round: %#x, %#x by %#x", a, b, p)
		}
		if MulMod(a, b^c, p) != MulMod(a, b, p)^MulMod(a, c, p) {
			t.Errorf("spread: %#x, %#x, %#x by %#x", a, b, c, p)
		}
		if MulMod(MulMod(a, b, p), c, p) != MulMod(a, MulMod(b, c, p), p) {
			t.Errorf("of three: %#x, %#x, %#x by %#x", a, b, c, p)
		}
		if MulMod(a, 1, p) != Mod(uint64(a), p) || MulMod(a, 0, p) != 0 {
			t.Errorf("by 1 and by 0: %#x by %#x", a, p)
		}
	}
}

// hasZeroProduct tells whether two numbers other than 0, of lower degrees than p, have the product 0.
func hasZeroProduct(p uint32) bool {
	size := uint32(1) << Deg(uint64(p))
	for a := uint32(1); a < size; a++ {
		for b := a; b < size; b++ {
			if MulMod(a, b, p) == 0 {
				return true
			}
		}
	}
	return false
}

func TestIrreducibleHasNoProductThatIsZero(t *testing.T) {
	for p := uint32(2); p < 1<<7; p++ {
		if Irreducible(p) == hasZeroProduct(p) {
			t.Errorf("%#x: irreducible %v", p, Irreducible(p))
		}
	}
	for _, p := range []uint32{0x11B, 0x11D} {
		if hasZeroProduct(p) {
			t.Errorf("%#x has a product that is 0", p)
		}
	}
	if !hasZeroProduct(0x11C) {
		t.Error("0x11C has no product that is 0")
	}
}

func TestNoProductThatIsZeroOfTheHighestDegree(t *testing.T) {
	r := numbers()
	for range 20000 {
		a, b := uint32(1+r.Intn(0xFFFF)), uint32(1+r.Intn(0xFFFF))
		if MulMod(a, b, 0x1100B) == 0 || MulMod(a, b, 0x1002B) == 0 {
			t.Errorf("%#x, %#x", a, b)
		}
	}
}

// Every call ends and none panics, at all arguments.
func TestEdgesEnd(t *testing.T) {
	for _, a := range edges() {
		Irreducible(a)
		Primitive(a)
		for _, b := range edges() {
			Deg(Mul(a, b))
			for _, p := range edges() {
				Mod(uint64(a)<<32|uint64(b), p)
				MulMod(a, b, p)
			}
		}
	}
}
