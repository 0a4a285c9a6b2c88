package gf

import (
	"math"
	"testing"
)

// lawsOfThree holds the laws for three numbers of a field.
func lawsOfThree(t *testing.T, f *Field, a, b, c int) {
	t.Helper()
	if f.Mul(a, b) != f.Mul(b, a) {
		t.Fatalf("turned round: %d, %d", a, b)
	}
	if f.Mul(f.Mul(a, b), c) != f.Mul(a, f.Mul(b, c)) {
		t.Fatalf("of three: %d, %d, %d", a, b, c)
	}
	if f.Mul(a, b^c) != f.Mul(a, b)^f.Mul(a, c) {
		t.Fatalf("spread: %d, %d, %d", a, b, c)
	}
	if (f.Mul(a, b) == 0) != (a == 0 || b == 0) {
		t.Fatalf("a product that is 0: %d, %d", a, b)
	}
	if n := f.Mul(a, b); n < 0 || n >= f.Size() {
		t.Fatalf("a product that is no number: %d, %d", a, b)
	}
	if b == 0 {
		return
	}
	if n, ok := f.Div(f.Mul(a, b), b); n != a || !ok {
		t.Fatalf("multiplied, and divided: %d, %d", a, b)
	}
}

func TestLawsOfAField(t *testing.T) {
	r := numbers()
	for _, k := range kinds() {
		f := made(t, k)
		for _, a := range some(k) {
			if f.Mul(a, 1) != a || f.Mul(1, a) != a || f.Mul(a, 0) != 0 || f.Mul(0, a) != 0 {
				t.Errorf("%#x: by 1 and by 0: %d", k.p, a)
			}
			for _, b := range some(k) {
				lawsOfThree(t, f, a, b, r.Intn(f.Size()))
			}
		}
	}
}

func TestLawsOfPowers(t *testing.T) {
	r := numbers()
	for _, k := range kinds() {
		f := made(t, k)
		for range 20000 {
			a, b, m, n := r.Intn(f.Size()), r.Intn(f.Size()), r.Intn(1<<20), r.Intn(1<<20)
			if f.Pow(a, m+n) != f.Mul(f.Pow(a, m), f.Pow(a, n)) || f.Pow(a, m*n) != f.Pow(f.Pow(a, m), n) {
				t.Fatalf("%#x: powers of %d: %d, %d", k.p, a, m, n)
			}
			if f.Pow(f.Mul(a, b), n) != f.Mul(f.Pow(a, n), f.Pow(b, n)) {
				t.Fatalf("%#x: power %d of a product: %d, %d", k.p, n, a, b)
			}
			if f.Exp(m-n) != f.Mul(f.Exp(m), f.Exp(-n)) {
				t.Fatalf("%#x: Exp of %d and %d", k.p, m, -n)
			}
		}
	}
}

func TestExpAndLogThereAndBack(t *testing.T) {
	for _, k := range kinds() {
		f := made(t, k)
		for n := range f.Size() - 1 {
			if got, ok := f.Log(f.Exp(n)); got != n || !ok {
				t.Fatalf("%#x: Log(Exp(%d)) = %d, %v", k.p, n, got, ok)
			}
		}
		for a := 1; a < f.Size(); a++ {
			n, ok := f.Log(a)
			if !ok || n < 0 || n >= f.Size()-1 || f.Exp(n) != a {
				t.Fatalf("%#x: Log(%d) = %d, %v", k.p, a, n, ok)
			}
		}
	}
}

// Every call ends and none panics, at all arguments.
func TestEdgesEnd(t *testing.T) {
	edges := []int{math.MinInt, math.MinInt + 1, math.MinInt32, -65536, -65535, -256, -255, -1, 0, 1, 2, 254, 255, 256, 65534, 65535, 65536, 1 << 31, 1 << 32, math.MaxInt - 1, math.MaxInt}
	for _, f := range []*Field{nil, New(8, 0x11D), New(16, 0x1100B)} {
		for _, a := range edges {
			f.Inv(a)
			f.Log(a)
			f.Exp(a)
			for _, b := range edges {
				f.Mul(a, b)
				f.Div(a, b)
				f.Pow(a, b)
			}
		}
	}
	for _, w := range edges {
		for _, p := range []uint32{0, 1, 2, 3, 0x11D, 0x1100B, 1 << 31, math.MaxUint32} {
			New(w, p)
		}
	}
}
