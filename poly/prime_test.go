package poly

import (
	"math"
	"testing"
)

// below is where polynomials of degrees over 16 begin.
const below = 1 << 17

// sieve tells of each polynomial of a degree of at most 16 whether it is a product of two of degrees of at least 1.
func sieve() []bool {
	product := make([]bool, below)
	for a := uint32(2); a < 1<<9; a++ {
		for b := a; Deg(uint64(a))+Deg(uint64(b)) <= 16; b++ {
			product[slowMul32(a, b)] = true
		}
	}
	return product
}

// slowMul32 is a product of a degree below 32, by adding and doubling.
func slowMul32(a, b uint32) uint32 {
	product := uint32(0)
	for ; b > 0; a, b = a<<1, b>>1 {
		if b%2 == 1 {
			product ^= a
		}
	}
	return product
}

// walk tells whether the powers of x modulo p, of that degree, are all numbers from 1 on of lower degrees.
func walk(p uint32, degree int) bool {
	power := uint32(1)
	for steps := 1; ; steps++ {
		power <<= 1
		if power>>degree == 1 {
			power ^= p
		}
		if power == 0 {
			return false
		}
		if power == 1 {
			return steps == 1<<degree-1
		}
		if steps > 1<<degree {
			return false
		}
	}
}

func TestIrreducibleIsNoProduct(t *testing.T) {
	product := sieve()
	var counts [17]int
	for p := uint32(2); p < below; p++ {
		if Irreducible(p) == product[p] {
			t.Errorf("Irreducible(%#x) = %v", p, Irreducible(p))
		}
		if Irreducible(p) {
			counts[Deg(uint64(p))]++
		}
	}
	// As many as Gauss's formula counts.
	if want := [17]int{0, 2, 1, 2, 3, 6, 9, 18, 30, 56, 99, 186, 335, 630, 1161, 2182, 4080}; counts != want {
		t.Errorf("of each degree: %v, not %v", counts, want)
	}
}

func TestPrimitiveHasAllPowersOfX(t *testing.T) {
	product := sieve()
	var counts [17]int
	for p := uint32(2); p < below; p++ {
		degree := Deg(uint64(p))
		want := !product[p] && walk(p, degree)
		if Primitive(p) != want {
			t.Errorf("Primitive(%#x) = %v", p, !want)
		}
		if want {
			counts[degree]++
		}
	}
	// As many as Euler's function of 2^degree - 1, over the degree.
	if want := [17]int{0, 1, 1, 2, 2, 6, 6, 18, 16, 48, 60, 176, 144, 630, 756, 1800, 2048}; counts != want {
		t.Errorf("of each degree: %v, not %v", counts, want)
	}
}

// The promise names MulMod: its powers are counted here as it says.
func TestPrimitiveByMulMod(t *testing.T) {
	for p := uint32(2); p < 1<<11; p++ {
		size := 1 << Deg(uint64(p))
		seen := map[uint32]bool{}
		power := MulMod(1, 1, p)
		for range size {
			seen[power] = true
			power = MulMod(power, 2, p)
		}
		want := Irreducible(p) && !seen[0] && len(seen) == size-1
		if Primitive(p) != want {
			t.Errorf("Primitive(%#x) = %v", p, !want)
		}
	}
}

func TestIrreducibleAndPrimitiveExamples(t *testing.T) {
	for _, c := range []struct {
		p                      uint32
		irreducible, primitive bool
	}{
		{0x11D, true, true}, {0x11B, true, false}, {0x11C, false, false}, {0x1100B, true, true},
		{0, false, false}, {1, false, false}, // of degrees too low
		{2, true, false}, {3, true, true}, // of the lowest degree: x itself has 0 among its powers
		{4, false, false}, {5, false, false}, {6, false, false}, {7, true, true},
		{0x1F, true, false},                              // x has only five powers
		{0x10001, false, false}, {0x1FFFF, false, false}, // of the highest degree
		{0x1002B, true, false}, {0x1002D, true, true}, // of the highest degree
		{0x20009, false, false}, {0x2000F, false, false}, // of a degree too high, but no products
		{1 << 31, false, false}, {1<<31 | 9, false, false}, // of a degree too high
		{0xC0000401, false, false}, {0x80200003, false, false}, // of the highest degree that a number has
		{math.MaxUint32, false, false},
	} {
		if Irreducible(c.p) != c.irreducible || Primitive(c.p) != c.primitive {
			t.Errorf("%#x: %v, %v", c.p, Irreducible(c.p), Primitive(c.p))
		}
	}
}

func TestDegreesOver16AreRefused(t *testing.T) {
	r := numbers()
	for range 5000 {
		p := r.Uint32()>>r.Intn(15) | below
		if Irreducible(p) || Primitive(p) {
			t.Errorf("%#x: %v, %v", p, Irreducible(p), Primitive(p))
		}
	}
}
