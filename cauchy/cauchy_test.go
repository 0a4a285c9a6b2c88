package cauchy

import (
	"fmt"
	"math"
	"math/rand"
	"slices"
	"testing"

	"gambrel/api"
	"gambrel/gf"
	"gambrel/matrix"
	"gambrel/poly"
)

// call is Orig or Isal: they are asked alike.
type call func(f *gf.Field, k, m int) (matrix.Mat, api.Errno)

// kind is what a field is made of.
type kind struct {
	w int
	p uint32
}

// kinds are the profiles' two, and another of each width, so that one that is not asked is found out.
func kinds() []kind { return []kind{{8, 0x11D}, {16, 0x1100B}, {8, 0x12B}, {16, 0x1002D}} }

// made is the field of a kind.
func made(t *testing.T, k kind) *gf.Field {
	t.Helper()
	f := gf.New(k.w, k.p)
	if f == nil {
		t.Fatalf("New(%d, %#x) is nil", k.w, k.p)
	}
	return f
}

// fields are those of all kinds.
func fields(t *testing.T) []*gf.Field {
	t.Helper()
	var list []*gf.Field
	for _, k := range kinds() {
		list = append(list, made(t, k))
	}
	return list
}

// numbers are a source of test inputs that is the same in each run.
func numbers() *rand.Rand { return rand.New(rand.NewSource(8)) }

// apart are so many numbers of the field by chance, none of them twice.
func apart(r *rand.Rand, f *gf.Field, count int) []int {
	list := make([]int, 0, count)
	for len(list) < count {
		if n := r.Intn(f.Size()); !slices.Contains(list, n) {
			list = append(list, n)
		}
	}
	return list
}

// upTo is the numbers from first to below end.
func upTo(first, end int) []int {
	var l []int
	for n := first; n < end; n++ {
		l = append(l, n)
	}
	return l
}

// strangers are what is no number of the field.
func strangers(f *gf.Field) []int {
	size := f.Size()
	return []int{
		-1, -2, -size, -size - 1, math.MinInt32, math.MinInt, math.MinInt + 1,
		size, size + 1, 2*size - 1, 1 << 24, 1 << 31, 1 << 32, 1<<32 + 3, math.MaxInt - 1, math.MaxInt,
	}
}

// edges are numbers of rows or columns, most of which may not be; sums of some of them run over.
func edges() []int {
	return []int{
		math.MinInt, math.MinInt + 1, math.MinInt + 20, math.MinInt / 2, math.MinInt32, -65536, -256, -21, -20, -19, -2, -1,
		0, 1, 2, 10, 11, 18, 19, 20, 21, 22, 40, 255, 256, 257, 65535, 65536, 65537, math.MaxInt32, 1 << 31, 1 << 32, 1<<32 + 1,
		math.MaxInt/2 + 1, math.MaxInt - 20, math.MaxInt - 1, math.MaxInt,
	}
}

// same tells whether two matrices have the same rows.
func same(a, b matrix.Mat) bool {
	return slices.EqualFunc(a, b, func(x, y []int) bool { return slices.Equal(x, y) })
}

// wantMat holds what a call told against the matrix that is asked for.
func wantMat(t *testing.T, what string, got matrix.Mat, e api.Errno, want matrix.Mat) {
	t.Helper()
	if e != api.OK || !same(got, want) {
		t.Errorf("%s: %v, %v, not %v", what, got, e, want)
	}
}

// refused holds that a call told ErrArg, and no matrix.
func refused(t *testing.T, what string, got matrix.Mat, e api.Errno) {
	t.Helper()
	if e != api.ErrArg || len(got) != 0 {
		t.Errorf("%s: %v, %v, not refused", what, got, e)
	}
}

// askedOf is Of where nothing may be refused.
func askedOf(t *testing.T, f *gf.Field, x, y []int) matrix.Mat {
	t.Helper()
	got, e := Of(f, x, y)
	if e != api.OK {
		t.Fatalf("Of %v and %v: %v", x, y, e)
	}
	return got
}

// holdOf holds that a told matrix has a row of each of x, and in it numbers whose products with x and y, added, are 1:
// of each there is but one.
func holdOf(t *testing.T, k kind, x, y []int, got matrix.Mat, e api.Errno) {
	t.Helper()
	if e != api.OK || len(got) != len(x) {
		t.Fatalf("%#x: Of %v and %v: %v, %v", k.p, x, y, got, e)
	}
	for i, row := range got {
		if len(row) != len(y) {
			t.Fatalf("%#x: Of %v and %v: a row of %d numbers", k.p, x, y, len(row))
		}
		for j, n := range row {
			if n < 1 || n >= 1<<k.w || poly.MulMod(uint32(n), uint32(x[i]^y[j]), k.p) != 1 {
				t.Errorf("%#x: Of %v and %v has %d in the row %d and the column %d", k.p, x, y, n, i, j)
			}
		}
	}
}

func TestOfAsItIsWritten(t *testing.T) {
	narrow, wide := gf.New(8, 0x11D), gf.New(16, 0x1100B)
	for _, c := range []struct {
		f    *gf.Field
		x, y []int
		want matrix.Mat
	}{
		{narrow, []int{0}, []int{1}, matrix.Mat{{1}}},
		{narrow, []int{1}, []int{0}, matrix.Mat{{1}}},
		{narrow, []int{2}, []int{0, 1, 3}, matrix.Mat{{142, 244, 1}}},
		{narrow, []int{2}, []int{3, 0, 1}, matrix.Mat{{1, 142, 244}}},
		{narrow, []int{0, 1, 3}, []int{2}, matrix.Mat{{142}, {244}, {1}}},
		{narrow, []int{3, 0}, []int{1, 2}, matrix.Mat{{142, 1}, {1, 142}}},
		{narrow, []int{255, 29}, []int{127, 157}, matrix.Mat{{27, 202}, {202, 27}}},
		{wide, []int{2}, []int{0, 1, 3}, matrix.Mat{{0x8805, 0xF006, 1}}},
		{wide, []int{256}, []int{258, 259}, matrix.Mat{{0x8805, 0xF006}}},
		{wide, []int{65535, 0}, []int{65533}, matrix.Mat{{0x8805}, {0xAEE5}}},
	} {
		got, e := Of(c.f, c.x, c.y)
		wantMat(t, fmt.Sprintf("Of %d bits, %v and %v", c.f.Bits(), c.x, c.y), got, e, c.want)
	}
}

// Of one row and one column any two numbers that aren't alike are taken, and no others.
func TestOfAnyTwoNumbers(t *testing.T) {
	for _, k := range kinds() {
		f := made(t, k)
		list := append(strangers(f), 0, 1, 2, 3, 127, 128, 254, 255, f.Size()/2, f.Size()-2, f.Size()-1)
		if k.w == 8 {
			list = append(strangers(f), upTo(0, 256)...)
		}
		for _, a := range list {
			for _, b := range list {
				got, e := Of(f, []int{a}, []int{b})
				if a == b || min(a, b) < 0 || max(a, b) >= f.Size() {
					refused(t, fmt.Sprintf("%#x: Of %d and %d", k.p, a, b), got, e)
				} else {
					holdOf(t, k, []int{a}, []int{b}, got, e)
				}
			}
		}
	}
}

func TestOfAllSides(t *testing.T) {
	r := numbers()
	for _, k := range kinds() {
		f := made(t, k)
		for rows := range 24 {
			for cols := range 24 {
				list := apart(r, f, rows+cols)
				x, y := list[:rows], list[rows:]
				got, e := Of(f, x, y)
				if rows < 1 || rows > 20 || cols < 1 || cols > 20 {
					refused(t, fmt.Sprintf("Of %d and %d numbers", rows, cols), got, e)
				} else {
					holdOf(t, k, x, y, got, e)
				}
			}
		}
	}
}

func TestOfTooManyOrNone(t *testing.T) {
	for _, f := range fields(t) {
		for _, l := range [][]int{nil, {}, upTo(100, 121), upTo(100, 200), make([]int, 100000)} {
			for _, other := range [][]int{nil, {}, {1}, upTo(0, 20), upTo(0, 21)} {
				got, e := Of(f, l, other)
				refused(t, fmt.Sprintf("Of %d and %d numbers", len(l), len(other)), got, e)
				got, e = Of(f, other, l)
				refused(t, fmt.Sprintf("Of %d and %d numbers", len(other), len(l)), got, e)
			}
		}
	}
}

// A number that is none of the field is found wherever it stands; the largest one is taken there.
func TestOfWhatIsNoNumber(t *testing.T) {
	for _, k := range kinds() {
		f := made(t, k)
		for _, side := range []int{1, 2, 3, 20} {
			for place := range 2 * side {
				for _, n := range append(strangers(f), f.Size()-1) {
					list := upTo(0, 2*side)
					list[place] = n
					x, y := list[:side], list[side:]
					got, e := Of(f, x, y)
					if n == f.Size()-1 {
						holdOf(t, k, x, y, got, e)
					} else {
						refused(t, fmt.Sprintf("%#x: Of %v and %v", k.p, x, y), got, e)
					}
				}
			}
		}
	}
	narrow, wide := gf.New(8, 0x11D), gf.New(16, 0x1100B)
	for _, n := range []int{256, 257, 65535} {
		got, e := Of(narrow, []int{0, n}, []int{1})
		refused(t, fmt.Sprintf("of 8 bits %d", n), got, e)
		got, e = Of(wide, []int{0, n}, []int{1})
		holdOf(t, kind{16, 0x1100B}, []int{0, n}, []int{1}, got, e)
	}
}

// Any two places of both together must not have the same number, whichever it is.
func TestOfWhatStandsTwice(t *testing.T) {
	r := numbers()
	for _, f := range fields(t) {
		for _, sides := range [][2]int{{1, 1}, {1, 2}, {2, 1}, {2, 2}, {3, 4}, {1, 20}, {20, 1}, {20, 20}} {
			rows, both := sides[0], sides[0]+sides[1]
			for i := range both {
				for j := range i {
					list := apart(r, f, both)
					list[i] = list[j]
					got, e := Of(f, list[:rows], list[rows:])
					refused(t, fmt.Sprintf("Of %v and %v", list[:rows], list[rows:]), got, e)
				}
			}
		}
		for _, n := range []int{0, 1, f.Size() - 1} {
			for _, c := range [][2][]int{{{n, n}, {2}}, {{2}, {n, n}}, {{n}, {n}}, {{n, 2}, {3, n}}, {{n, n}, {n, n}}} {
				got, e := Of(f, c[0], c[1])
				refused(t, fmt.Sprintf("Of %v and %v", c[0], c[1]), got, e)
			}
		}
	}
}

func TestOfNoField(t *testing.T) {
	for _, x := range [][]int{nil, {}, {0}, {1}, {-1}, {1, 2}, upTo(0, 20), upTo(0, 21)} {
		for _, y := range [][]int{nil, {}, {1}, {0}, {30, 31}, upTo(20, 40), upTo(20, 41)} {
			got, e := Of(nil, x, y)
			refused(t, fmt.Sprintf("Of no field, %v and %v", x, y), got, e)
		}
	}
}

func TestOrigAndIsalAsTheyAreWritten(t *testing.T) {
	narrow, wide := gf.New(8, 0x11D), gf.New(16, 0x1100B)
	for _, c := range []struct {
		what string
		call
		f    *gf.Field
		k, m int
		want matrix.Mat
	}{
		{"Orig", Orig, narrow, 1, 1, matrix.Mat{{1}}},
		{"Orig", Orig, wide, 1, 1, matrix.Mat{{1}}},
		{"Orig", Orig, narrow, 2, 1, matrix.Mat{{1, 142}}},
		{"Orig", Orig, narrow, 1, 2, matrix.Mat{{142}, {244}}},
		{"Orig", Orig, narrow, 2, 2, matrix.Mat{{142, 244}, {244, 142}}},
		{"Orig", Orig, wide, 2, 2, matrix.Mat{{0x8805, 0xF006}, {0xF006, 0x8805}}},
		{"Orig", Orig, narrow, 5, 2, matrix.Mat{{142, 244, 71, 167, 122}, {244, 142, 167, 71, 186}}},
		{"Isal", Isal, narrow, 1, 1, matrix.Mat{{1}}},
		{"Isal", Isal, wide, 1, 1, matrix.Mat{{1}}},
		{"Isal", Isal, narrow, 2, 1, matrix.Mat{{142, 244}}},
		{"Isal", Isal, narrow, 1, 2, matrix.Mat{{1}, {142}}},
		{"Isal", Isal, narrow, 2, 2, matrix.Mat{{142, 244}, {244, 142}}},
		{"Isal", Isal, narrow, 3, 1, matrix.Mat{{244, 142, 1}}},
		{"Isal", Isal, wide, 3, 1, matrix.Mat{{0xF006, 0x8805, 1}}},
		{"Isal", Isal, narrow, 4, 2, matrix.Mat{{71, 167, 122, 186}, {167, 71, 186, 122}}},
	} {
		got, e := c.call(c.f, c.k, c.m)
		wantMat(t, fmt.Sprintf("%s of %d bits, %d and %d", c.what, c.f.Bits(), c.k, c.m), got, e, c.want)
	}
}

// coding are the two calls of k and m, and which numbers, from which on, are each one's x and y.
func coding() []struct {
	what string
	call
	x, y func(k, m int) []int
} {
	return []struct {
		what string
		call
		x, y func(k, m int) []int
	}{
		{"Orig", Orig, func(k, m int) []int { return upTo(0, m) }, func(k, m int) []int { return upTo(m, m+k) }},
		{"Isal", Isal, func(k, m int) []int { return upTo(k, k+m) }, func(k, m int) []int { return upTo(0, k) }},
	}
}

func TestOrigAndIsalOfAllSides(t *testing.T) {
	for _, c := range coding() {
		for _, kind := range kinds() {
			f := made(t, kind)
			for k := -1; k <= 22; k++ {
				for m := -1; m <= 22; m++ {
					got, e := c.call(f, k, m)
					what := fmt.Sprintf("%s of %d bits, %d and %d", c.what, f.Bits(), k, m)
					if k < 1 || m < 1 || k+m > 20 {
						refused(t, what, got, e)
						continue
					}
					x, y := c.x(k, m), c.y(k, m)
					holdOf(t, kind, x, y, got, e)
					wantMat(t, what, got, e, askedOf(t, f, x, y))
				}
			}
		}
	}
}

func TestOrigAndIsalOfWhatMayNotBe(t *testing.T) {
	for _, c := range coding() {
		for _, kind := range kinds() {
			f := made(t, kind)
			for _, k := range edges() {
				for _, m := range edges() {
					got, e := c.call(f, k, m)
					// Neither is above 19 where both may be, so that their sum is asked of small ones alone.
					if 1 <= k && k <= 19 && 1 <= m && m <= 19 && k+m <= 20 {
						holdOf(t, kind, c.x(k, m), c.y(k, m), got, e)
					} else {
						refused(t, fmt.Sprintf("%s of %d and %d", c.what, k, m), got, e)
					}
				}
			}
			// These sums, run over, would be numbers that may be.
			for _, pair := range [][2]int{
				{math.MaxInt, math.MinInt + 6}, {math.MinInt + 6, math.MaxInt}, {math.MinInt, math.MinInt + 5}, {math.MinInt/2 + 3, math.MinInt / 2},
				{math.MaxInt, math.MaxInt}, {math.MaxInt, 1}, {1, math.MaxInt}, {1<<32 + 3, 2 - 1<<32}, {25, -20}, {-20, 25},
			} {
				got, e := c.call(f, pair[0], pair[1])
				refused(t, fmt.Sprintf("%s of %d and %d", c.what, pair[0], pair[1]), got, e)
			}
		}
	}
}

func TestOrigAndIsalOfNoField(t *testing.T) {
	for _, c := range coding() {
		for _, k := range edges() {
			for _, m := range edges() {
				got, e := c.call(nil, k, m)
				refused(t, fmt.Sprintf("%s of no field, %d and %d", c.what, k, m), got, e)
			}
		}
	}
}
