package region

import (
	"bytes"
	"math"
	"slices"
	"testing"

	"gambrel/api"
	"gambrel/gf"
)

func TestWordsAndBytesThereAndBack(t *testing.T) {
	r := numbers()
	for _, f := range fields(t) {
		all := make([]int, f.Size())
		for i := range all {
			all[i] = i
		}
		b, e := Bytes(f, all)
		wantBytes(t, "all numbers", b, e, slowBytes(f, all))
		if l, e := Words(f, b); e != api.OK || !slices.Equal(l, all) {
			t.Errorf("%d bits: all numbers do not come back: %v", f.Bits(), e)
		}
		for n := range 50 {
			b := some(r, 2*n)
			l, e := Words(f, b)
			if e != api.OK || !slices.Equal(l, slowWords(f, b)) {
				t.Errorf("Words of % x: %v, %v", b, l, e)
			}
			back, e := Bytes(f, l)
			wantBytes(t, "back", back, e, b)
		}
	}
}

// mul, add and dot are the calls where nothing may be refused.
func mul(t *testing.T, f *gf.Field, c int, b []byte) []byte {
	t.Helper()
	got, e := Mul(f, c, b)
	if e != api.OK {
		t.Fatalf("Mul by %d: %v", c, e)
	}
	return got
}

func add(t *testing.T, a, b []byte) []byte {
	t.Helper()
	got, e := Add(a, b)
	if e != api.OK {
		t.Fatalf("Add: %v", e)
	}
	return got
}

func dot(t *testing.T, f *gf.Field, c []int, rows ...[]byte) []byte {
	t.Helper()
	got, e := Dot(f, c, rows)
	if e != api.OK {
		t.Fatalf("Dot by %v: %v", c, e)
	}
	return got
}

func TestProductsSpreadOverSums(t *testing.T) {
	r := numbers()
	for _, f := range fields(t) {
		for range 300 {
			n := 2 * r.Intn(30)
			a, b := some(r, n), some(r, n)
			c, d := r.Intn(f.Size()), r.Intn(f.Size())
			if !bytes.Equal(mul(t, f, c, add(t, a, b)), add(t, mul(t, f, c, a), mul(t, f, c, b))) {
				t.Fatalf("%d of % x and % x", c, a, b)
			}
			if !bytes.Equal(mul(t, f, c^d, a), add(t, mul(t, f, c, a), mul(t, f, d, a))) {
				t.Fatalf("%d and %d of % x", c, d, a)
			}
			if !bytes.Equal(mul(t, f, d, dot(t, f, []int{c, d}, a, b)), dot(t, f, []int{f.Mul(c, d), f.Mul(d, d)}, a, b)) {
				t.Fatalf("%d of a sum by %d and %d", d, c, d)
			}
		}
	}
}

func TestLawsOfSumsAndProducts(t *testing.T) {
	r := numbers()
	for _, f := range fields(t) {
		for range 100 {
			n := 2 * r.Intn(30)
			a, b := some(r, n), some(r, n)
			c := 1 + r.Intn(f.Size()-1)
			inverse, _ := f.Inv(c)
			if !bytes.Equal(mul(t, f, inverse, mul(t, f, c, a)), a) {
				t.Fatalf("%d and back, of % x", c, a)
			}
			if !bytes.Equal(add(t, a, b), add(t, b, a)) || !bytes.Equal(add(t, add(t, a, b), b), a) {
				t.Fatalf("sums of % x and % x", a, b)
			}
			if !bytes.Equal(dot(t, f, []int{1, 1}, a, b), add(t, a, b)) || !bytes.Equal(dot(t, f, []int{c}, a), mul(t, f, c, a)) {
				t.Fatalf("Dot of % x and % x", a, b)
			}
		}
	}
}

// What is handed in stays as it is, and what is told is another memory.
func TestNothingIsChangedOrShared(t *testing.T) {
	narrow, wide := gf.New(8, 0x11D), gf.New(16, 0x1100B)
	for _, f := range []*gf.Field{narrow, wide} {
		// Behind each there is room, into which nothing may be written.
		room := []byte{1, 2, 3, 4, 9, 9}
		a, b := room[:4], []byte{5, 6, 7, 8}
		c, l := []int{1, 2}, []int{3, 4, 5}
		rows := [][]byte{a, b}
		kept := func(what string) {
			t.Helper()
			if !bytes.Equal(room, []byte{1, 2, 3, 4, 9, 9}) || !bytes.Equal(b, []byte{5, 6, 7, 8}) || !slices.Equal(c, []int{1, 2}) || !slices.Equal(l, []int{3, 4, 5}) {
				t.Fatalf("%s: % x, % x, %v, %v", what, room, b, c, l)
			}
			if len(rows) != 2 || &rows[0][0] != &a[0] || &rows[1][0] != &b[0] || len(rows[0]) != 4 || len(rows[1]) != 4 {
				t.Fatalf("%s: rows are others", what)
			}
		}
		spoil := func(what string, got []byte) {
			t.Helper()
			kept(what)
			for i := range got {
				got[i] ^= 255
			}
			_ = append(got, 77, 77)
			kept(what + ", spoilt")
		}
		words, _ := Words(f, a)
		for i := range words {
			words[i] = -1
		}
		kept("Words")
		told, _ := Bytes(f, l)
		spoil("Bytes", told)
		for _, n := range []int{0, 1, 2} {
			spoil("Mul", mul(t, f, n, a))
		}
		spoil("Add", add(t, a, b))
		spoil("Add with itself", add(t, a, a))
		spoil("Dot", dot(t, f, c, rows...))
		spoil("Dot of one", dot(t, f, []int{1}, a))
		spoil("Dot of one twice", dot(t, f, []int{1, 0}, a, a))
	}
}

func TestOneRegionHandedInTwice(t *testing.T) {
	f := gf.New(8, 0x11D)
	a := []byte{1, 2, 3}
	got, e := Add(a, a)
	wantBytes(t, "with itself", got, e, []byte{0, 0, 0})
	got, e = Dot(f, []int{2, 3}, [][]byte{a, a})
	wantBytes(t, "2 and 3 of it", got, e, a)
	got, e = Add(a[:2], a[1:])
	wantBytes(t, "pieces of one", got, e, []byte{3, 1})
}

// Every call ends and none panics, at all arguments.
func TestEdgesEnd(t *testing.T) {
	counts := []int{math.MinInt, math.MinInt32, -65536, -256, -1, 0, 1, 255, 256, 65535, 65536, 1 << 31, 1 << 32, math.MaxInt}
	regions := [][]byte{nil, {}, {1}, {1, 2}, {1, 2, 3}, make([]byte, api.MaxFile), make([]byte, api.MaxFile+1)}
	for _, f := range []*gf.Field{nil, gf.New(8, 0x11D), gf.New(16, 0x1100B)} {
		Bytes(f, counts)
		for _, a := range regions {
			Words(f, a)
			for _, b := range regions {
				Add(a, b)
				Dot(f, counts, [][]byte{a, b})
				Dot(f, []int{1, 2}, [][]byte{a, b})
			}
			for _, c := range counts {
				Bytes(f, []int{c})
				Mul(f, c, a)
				Dot(f, []int{c, 1}, [][]byte{a, a})
			}
		}
		Dot(f, counts, regions)
		Dot(f, nil, regions)
		Dot(f, counts, nil)
	}
}
