package gf

import (
	"math"
	"math/rand"
	"sync"
	"testing"

	"gambrel/poly"
)

// numbers are a source of test inputs that is the same in each run.
func numbers() *rand.Rand { return rand.New(rand.NewSource(1)) }

// kind is what a field is made of.
type kind struct {
	w int
	p uint32
}

// kinds are the profiles' two, and others, so that a field that forgets its polynomial is found out.
func kinds() []kind {
	return []kind{{8, 0x11D}, {8, 0x12B}, {8, 0x1F5}, {16, 0x1100B}, {16, 0x1002D}}
}

// made is the field of a kind.
func made(t *testing.T, k kind) *Field {
	t.Helper()
	f := New(k.w, k.p)
	if f == nil {
		t.Fatalf("New(%d, %#x) is nil", k.w, k.p)
	}
	return f
}

// strangers are what is no number of a field of w bits.
func strangers(w int) []int {
	size := 1 << w
	return []int{-1, -2, -size, math.MinInt32, math.MinInt, math.MinInt + 1, size, size + 1, 2*size - 1, 1 << 31, 1 << 32, 1<<32 + 1, math.MaxInt}
}

// some are numbers of the field: all of one of 8 bits; of one of 16 the edges, and others by chance.
func some(k kind) []int {
	if k.w == 8 {
		all := make([]int, 256)
		for i := range all {
			all[i] = i
		}
		return all
	}
	list := []int{0, 1, 2, 3, 255, 256, 257, 0x7FFF, 0x8000, 0x8001, 0xFFFE, 0xFFFF}
	r := numbers()
	for range 200 {
		list = append(list, r.Intn(1<<16))
	}
	return list
}

// slowMul multiplies by shifts alone, from the highest bit of b down.
func slowMul(k kind, a, b int) int {
	product := 0
	for i := k.w - 1; i >= 0; i-- {
		product <<= 1
		if product>>k.w == 1 {
			product ^= int(k.p)
		}
		if b>>i&1 == 1 {
			product ^= a
		}
	}
	return product
}

func TestNewTakesJustPrimitivePolynomialsOfItsDegree(t *testing.T) {
	widths := []int{math.MinInt, -16, -8, -1, 0, 1, 2, 4, 7, 9, 12, 15, 17, 24, 32, 64, 8 + 1<<32, math.MaxInt}
	counts := map[int]int{}
	for p := range uint32(1 << 17) {
		primitive := poly.Primitive(p)
		for _, w := range []int{8, 16} {
			want := primitive && p>>w == 1
			if f := New(w, p); (f != nil) != want {
				t.Fatalf("New(%d, %#x): a field %v, not %v", w, p, f != nil, want)
			}
			if want {
				counts[w]++
			}
		}
		if !primitive {
			continue
		}
		for _, w := range widths {
			if New(w, p) != nil {
				t.Fatalf("New(%d, %#x) is a field", w, p)
			}
		}
	}
	// So many there are by the count of what has no factor in common with 2^w - 1.
	if counts[8] != 16 || counts[16] != 2048 {
		t.Errorf("fields: %v", counts)
	}
}

func TestNewRefusesWhatIsNotPrimitive(t *testing.T) {
	refused := []kind{
		{8, 0x11B},                // irreducible alone
		{8, 0x11C},                // not even that
		{16, 0x1002B},             // irreducible alone
		{8, 0x1100B}, {16, 0x11D}, // of the other's degree
		{4, 0x13}, {7, 0x83}, {9, 0x211}, {15, 0x8003}, // primitive, of no width that a field has
		{8, 0}, {16, 0}, {8, 1}, {8, 0x1D}, {16, 0x100B}, {8, 0x100}, {16, 0x10000},
		{8, 0x8000011D}, {16, 0x8001100B}, {8, math.MaxUint32}, {16, math.MaxUint32},
		{0, 0}, {0, 1}, {-1, 0}, {-8, 0x11D}, {math.MinInt, 0x11D}, {math.MaxInt, 0x1100B},
	}
	for _, p := range []uint32{0x11B, 0x1002B} {
		if !poly.Irreducible(p) {
			t.Errorf("%#x is not irreducible", p)
		}
	}
	for _, k := range refused {
		if New(k.w, k.p) != nil {
			t.Errorf("New(%d, %#x) is a field", k.w, k.p)
		}
	}
}

func TestBitsAndSize(t *testing.T) {
	for _, k := range kinds() {
		f := made(t, k)
		if f.Bits() != k.w || f.Size() != 1<<k.w {
			t.Errorf("New(%d, %#x): %d bits, size %d", k.w, k.p, f.Bits(), f.Size())
		}
	}
}

func TestNilFieldTellsNothing(t *testing.T) {
	var f *Field
	if f.Bits() != 0 || f.Size() != 0 {
		t.Errorf("%d bits, size %d", f.Bits(), f.Size())
	}
	for _, a := range append(strangers(8), 0, 1, 2, 255, 65535) {
		for _, b := range []int{math.MinInt, -1, 0, 1, 2, 255, math.MaxInt} {
			if n := f.Mul(a, b); n != 0 {
				t.Errorf("Mul(%d, %d) = %d", a, b, n)
			}
			if n, ok := f.Div(a, b); n != 0 || ok {
				t.Errorf("Div(%d, %d) = %d, %v", a, b, n, ok)
			}
			if n := f.Pow(a, b); n != 0 {
				t.Errorf("Pow(%d, %d) = %d", a, b, n)
			}
		}
		if n, ok := f.Inv(a); n != 0 || ok {
			t.Errorf("Inv(%d) = %d, %v", a, n, ok)
		}
		if n, ok := f.Log(a); n != 0 || ok {
			t.Errorf("Log(%d) = %d, %v", a, n, ok)
		}
		if n := f.Exp(a); n != 0 {
			t.Errorf("Exp(%d) = %d", a, n)
		}
	}
}

func TestExamples(t *testing.T) {
	f := made(t, kind{8, 0x11D})
	if n := f.Mul(2, 128); n != 29 {
		t.Errorf("2 times 128: %d", n)
	}
	if n, ok := f.Inv(2); n != 142 || !ok {
		t.Errorf("inverse of 2: %d, %v", n, ok)
	}
}

func TestMulIsMulModOfThePolynomial(t *testing.T) {
	for _, k := range kinds() {
		f := made(t, k)
		for _, a := range some(k) {
			for _, b := range some(k) {
				n := f.Mul(a, b)
				if n != int(poly.MulMod(uint32(a), uint32(b), k.p)) || n != slowMul(k, a, b) {
					t.Fatalf("%#x: Mul(%d, %d) = %d, not %d", k.p, a, b, n, slowMul(k, a, b))
				}
			}
		}
	}
}

func TestNoNumberOfTheField(t *testing.T) {
	for _, k := range kinds() {
		f := made(t, k)
		for _, a := range strangers(k.w) {
			for _, b := range append(strangers(k.w), 0, 1, 2, 3, f.Size()-1) {
				if f.Mul(a, b) != 0 || f.Mul(b, a) != 0 {
					t.Errorf("%#x: Mul(%d, %d) = %d, turned round %d", k.p, a, b, f.Mul(a, b), f.Mul(b, a))
				}
				if n, ok := f.Div(a, b); n != 0 || ok {
					t.Errorf("%#x: Div(%d, %d) = %d, %v", k.p, a, b, n, ok)
				}
				if n, ok := f.Div(b, a); n != 0 || ok {
					t.Errorf("%#x: Div(%d, %d) = %d, %v", k.p, b, a, n, ok)
				}
				if n := f.Pow(a, b); n != 0 {
					t.Errorf("%#x: Pow(%d, %d) = %d", k.p, a, b, n)
				}
			}
			if n, ok := f.Inv(a); n != 0 || ok {
				t.Errorf("%#x: Inv(%d) = %d, %v", k.p, a, n, ok)
			}
			if n, ok := f.Log(a); n != 0 || ok {
				t.Errorf("%#x: Log(%d) = %d, %v", k.p, a, n, ok)
			}
		}
	}
}

func TestInvOfAllNumbers(t *testing.T) {
	for _, k := range kinds() {
		f := made(t, k)
		if n, ok := f.Inv(0); n != 0 || ok {
			t.Errorf("%#x: Inv(0) = %d, %v", k.p, n, ok)
		}
		for a := 1; a < f.Size(); a++ {
			n, ok := f.Inv(a)
			if !ok || n < 1 || n >= f.Size() || slowMul(k, a, n) != 1 {
				t.Fatalf("%#x: Inv(%d) = %d, %v", k.p, a, n, ok)
			}
		}
	}
}

func TestDiv(t *testing.T) {
	for _, k := range kinds() {
		f := made(t, k)
		for _, a := range some(k) {
			if n, ok := f.Div(a, 0); n != 0 || ok {
				t.Errorf("%#x: Div(%d, 0) = %d, %v", k.p, a, n, ok)
			}
			for _, b := range some(k) {
				if b == 0 {
					continue
				}
				n, ok := f.Div(a, b)
				if !ok || n < 0 || n >= f.Size() || slowMul(k, n, b) != a {
					t.Fatalf("%#x: Div(%d, %d) = %d, %v", k.p, a, b, n, ok)
				}
			}
		}
	}
}

// Fields that are asked at the same time from the first question on make their tables once, and of their own polynomial.
func TestFirstQuestionsAtTheSameTime(t *testing.T) {
	var group sync.WaitGroup
	for _, k := range kinds() {
		f := made(t, k)
		for range 8 {
			group.Go(func() {
				for a := 1; a < 256; a++ {
					if n := f.Mul(a, 0x80); n != slowMul(k, a, 0x80) {
						t.Errorf("%#x: Mul(%d, 128) = %d", k.p, a, n)
					}
					if n, ok := f.Log(a); !ok || f.Exp(n) != a {
						t.Errorf("%#x: Log(%d) = %d, %v", k.p, a, n, ok)
					}
				}
			})
		}
	}
	group.Wait()
}

// Each call is right as a field's first one: none leaves it to another to make the tables.
func TestFirstQuestionOfEachKind(t *testing.T) {
	k := kind{8, 0x11D}
	if n := made(t, k).Mul(2, 128); n != 29 {
		t.Errorf("Mul: %d", n)
	}
	if n, ok := made(t, k).Div(1, 2); n != 142 || !ok {
		t.Errorf("Div: %d, %v", n, ok)
	}
	if n, ok := made(t, k).Inv(2); n != 142 || !ok {
		t.Errorf("Inv: %d, %v", n, ok)
	}
	if n := made(t, k).Pow(2, 8); n != 29 {
		t.Errorf("Pow: %d", n)
	}
	if n := made(t, k).Exp(8); n != 29 {
		t.Errorf("Exp: %d", n)
	}
	if n, ok := made(t, k).Log(29); n != 8 || !ok {
		t.Errorf("Log: %d, %v", n, ok)
	}
}
