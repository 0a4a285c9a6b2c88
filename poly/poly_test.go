package poly

import (
	"math"
	"math/rand"
	"testing"
)

// numbers are a source of test inputs that is the same in each run.
func numbers() *rand.Rand { return rand.New(rand.NewSource(1)) }

// edges are arguments at which shifts and degrees are most easily wrong.
func edges() []uint32 {
	return []uint32{0, 1, 2, 3, 7, 0xFF, 0x100, 0x11B, 0x11D, 0xFFFF, 0x10000, 0x1100B, 0x1FFFF, 0x20000, 0x20009, 1 << 31, 1<<31 | 1, math.MaxUint32 - 1, math.MaxUint32}
}

// slowMul multiplies coefficient by coefficient, in another way than Mul does.
func slowMul(a, b uint32) uint64 {
	var counts [63]int
	for i := range 32 {
		for j := range 32 {
			counts[i+j] += int(a>>i&1) * int(b>>j&1)
		}
	}
	product := uint64(0)
	for i, n := range counts {
		product |= uint64(n%2) << i
	}
	return product
}

func TestDegIsThePlaceOfTheHighestBit(t *testing.T) {
	if n := Deg(0); n != -1 {
		t.Errorf("Deg(0) = %d", n)
	}
	for place := range 64 {
		bit := uint64(1) << place
		for _, p := range []uint64{bit, bit | 1, bit | (bit - 1), bit | bit>>1} {
			if n := Deg(p); n != place {
				t.Errorf("Deg(%#x) = %d, not %d", p, n, place)
			}
		}
	}
}

func TestMulExamples(t *testing.T) {
	for _, c := range []struct {
		a, b uint32
		want uint64
	}{
		{0, 0, 0}, {0, math.MaxUint32, 0}, {math.MaxUint32, 0, 0},
		{1, 1, 1}, {1, math.MaxUint32, math.MaxUint32}, {math.MaxUint32, 1, math.MaxUint32},
		{3, 3, 5}, {7, 3, 9}, {2, 128, 256}, {0x53, 0xCA, 0x3F7E},
		{1 << 31, 1 << 31, 1 << 62}, {1 << 31, 3, 3 << 31}, {3, 1 << 31, 3 << 31},
		{math.MaxUint32, math.MaxUint32, 0x5555555555555555},
	} {
		if n := Mul(c.a, c.b); n != c.want {
			t.Errorf("Mul(%#x, %#x) = %#x, not %#x", c.a, c.b, n, c.want)
		}
	}
}

func TestMulIsTheProductOfCoefficients(t *testing.T) {
	check := func(a, b uint32) {
		if n, want := Mul(a, b), slowMul(a, b); n != want {
			t.Errorf("Mul(%#x, %#x) = %#x, not %#x", a, b, n, want)
		}
	}
	for _, a := range edges() {
		for _, b := range edges() {
			check(a, b)
		}
	}
	for a := range uint32(64) {
		for b := range uint32(64) {
			check(a, b)
		}
	}
	r := numbers()
	for range 2000 {
		check(r.Uint32(), r.Uint32())
	}
}

func TestModExamples(t *testing.T) {
	for _, c := range []struct {
		a    uint64
		p    uint32
		want uint32
	}{
		{0, 0, 0}, {77, 0, 0}, {math.MaxUint64, 0, 0}, // by 0
		{0, 1, 0}, {5, 1, 0}, {math.MaxUint64, 1, 0}, // by 1: nothing has a lower degree but 0
		{0, 0x11D, 0}, {0xFF, 0x11D, 0xFF}, {0x11D, 0x11D, 0}, {0x100, 0x11D, 0x1D}, {0x11C, 0x11D, 1},
		{5, 2, 1}, {4, 2, 0}, {math.MaxUint64, 2, 1}, {1 << 63, 2, 0},
		{math.MaxUint64, 3, 0}, {math.MaxUint64 - 1, 3, 1}, {1 << 63, 3, 1},
		{1 << 63, 1 << 31, 0}, {1<<63 | 5, 1 << 31, 5}, {1<<31 - 1, 1 << 31, 1<<31 - 1},
		{math.MaxUint64, 1 << 31, 1<<31 - 1}, {math.MaxUint32, math.MaxUint32, 0}, {1 << 31, math.MaxUint32, 1<<31 - 1},
	} {
		if n := Mod(c.a, c.p); n != c.want {
			t.Errorf("Mod(%#x, %#x) = %#x, not %#x", c.a, c.p, n, c.want)
		}
	}
}

// For small numbers every multiple is tried, so that what is left is told by the promise's own words.
func TestModIsWhatMultiplesLeave(t *testing.T) {
	for p := uint32(1); p < 40; p++ {
		for a := range uint64(256) {
			r := Mod(a, p)
			if Deg(uint64(r)) >= Deg(uint64(p)) {
				t.Errorf("Mod(%#x, %#x) = %#x: its degree is too high", a, p, r)
			}
			found := false
			for q := range uint32(256) {
				found = found || slowMul(q, p)^uint64(r) == a
			}
			if !found {
				t.Errorf("Mod(%#x, %#x) = %#x: no multiple and it are that", a, p, r)
			}
		}
	}
}

func TestModTakesMultiplesAway(t *testing.T) {
	r := numbers()
	for range 5000 {
		p := r.Uint32()>>r.Intn(32) | 1
		rest := r.Uint32() & (1<<Deg(uint64(p)) - 1)
		q := r.Uint32()
		if n := Mod(slowMul(q, p)^uint64(rest), p); n != rest {
			t.Errorf("Mod of %#x times %#x, and %#x, by %#x = %#x", q, p, rest, p, n)
		}
	}
}

// The highest places of a can't be reached by a product of two 32-bit numbers: sums reach them.
func TestModOfASumIsTheSum(t *testing.T) {
	r := numbers()
	for range 5000 {
		a, b, p := r.Uint64(), r.Uint64()>>r.Intn(64), r.Uint32()>>r.Intn(32)
		if Mod(a^b, p) != Mod(a, p)^Mod(b, p) {
			t.Errorf("%#x and %#x by %#x", a, b, p)
		}
		if p != 0 && Deg(uint64(Mod(a, p))) >= Deg(uint64(p)) {
			t.Errorf("Mod(%#x, %#x): its degree is too high", a, p)
		}
	}
}

func TestMulMod(t *testing.T) {
	for _, c := range []struct{ a, b, p, want uint32 }{
		{0x80, 2, 0x11D, 0x1D}, {2, 142, 0x11D, 1}, {0x53, 0xCA, 0x11B, 1}, {0x8000, 2, 0x1100B, 0x100B},
		{3, 3, 0, 0}, {0, 0, 0, 0}, {math.MaxUint32, math.MaxUint32, 0, 0}, {3, 3, 1, 0}, {1, 1, 2, 1}, {2, 2, 2, 0},
		{0x100, 0x100, 0x11D, 0x4C}, // what has not a lower degree than p may be multiplied too
	} {
		if n := MulMod(c.a, c.b, c.p); n != c.want {
			t.Errorf("MulMod(%#x, %#x, %#x) = %#x, not %#x", c.a, c.b, c.p, n, c.want)
		}
	}
	for _, a := range edges() {
		for _, b := range edges() {
			for _, p := range edges() {
				if n, want := MulMod(a, b, p), Mod(Mul(a, b), p); n != want {
					t.Errorf("MulMod(%#x, %#x, %#x) = %#x, not %#x", a, b, p, n, want)
				}
			}
		}
	}
}
