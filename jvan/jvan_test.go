package jvan

import (
	"fmt"
	"math"
	"slices"
	"testing"

	"gambrel/api"
	"gambrel/gf"
	"gambrel/matrix"
)

// call is one of the package's two: they are asked alike.
type call func(f *gf.Field, k, m int) (matrix.Mat, api.Errno)

// fields are the profiles' two, and another of each width, so that one that is not asked is found out.
func fields(t *testing.T) []*gf.Field {
	t.Helper()
	list := []*gf.Field{gf.New(8, 0x11D), gf.New(16, 0x1100B), gf.New(8, 0x12B), gf.New(16, 0x1002D)}
	if slices.Contains(list, nil) {
		t.Fatal("a field is nil")
	}
	return list
}

// edges are numbers of rows or columns, most of which may not be; sums of some of them run over.
func edges() []int {
	return []int{
		math.MinInt, math.MinInt + 1, math.MinInt + 20, math.MinInt / 2, math.MinInt32, -65536, -256, -21, -20, -19, -2, -1,
		0, 1, 2, 10, 11, 18, 19, 20, 21, 22, 40, 255, 256, 257, 65535, 65536, 65537, math.MaxInt32, 1 << 31, 1 << 32, 1<<32 + 1,
		math.MaxInt/2 + 1, math.MaxInt - 20, math.MaxInt - 1, math.MaxInt,
	}
}

// sides goes through all k and m that may be.
func sides(do func(k, m int)) {
	for k := 1; k <= 19; k++ {
		for m := 1; k+m <= 20; m++ {
			do(k, m)
		}
	}
}

// same tells whether two matrices have the same rows.
func same(a, b matrix.Mat) bool {
	return slices.EqualFunc(a, b, func(x, y []int) bool { return slices.Equal(x, y) })
}

// wantMat holds what a call told against the matrix that is asked for.
func wantMat(t *testing.T, what string, got matrix.Mat, e api.Errno, want matrix.Mat) {
	t.Helper()
	if e != api.OK || !same(got, want) {
		t.Errorf("%s: %v, %v, not %v", what, got, e, want)
	}
}

// refused holds that a call told ErrArg, and no matrix.
func refused(t *testing.T, what string, got matrix.Mat, e api.Errno) {
	t.Helper()
	if e != api.ErrArg || len(got) != 0 {
		t.Errorf("%s: %v, %v, not refused", what, got, e)
	}
}

// asked is the call where nothing may be refused.
func asked(t *testing.T, c call, f *gf.Field, k, m int) matrix.Mat {
	t.Helper()
	got, e := c(f, k, m)
	if e != api.OK {
		t.Fatalf("of %d bits, %d and %d: %v", f.Bits(), k, m, e)
	}
	return got
}

// laid lays numbers place by place, each row behind the one before.
func laid(rows, cols int, number func(i, j int) int) matrix.Mat {
	var a matrix.Mat
	for len(a) < rows {
		var row []int
		for len(row) < cols {
			row = append(row, number(len(a), len(row)))
		}
		a = append(a, row)
	}
	return a
}

// slowExtended multiplies each power out.
func slowExtended(f *gf.Field, k, m int) matrix.Mat {
	return laid(k+m, k, func(i, j int) int {
		if i == k+m-1 && j == k-1 {
			return 1
		}
		if i == k+m-1 {
			return 0
		}
		product := 1
		for range j {
			product = f.Mul(product, i)
		}
		return product
	})
}

// lagrange is, without an inverse of a matrix, what stands in the parity row i and the column j ahead of any division:
// what the polynomial of a degree below k that is 1 at j, and 0 at all others below k, is at k + i;
// in the last row its factor of the highest power.
func lagrange(f *gf.Field, k, m, i, j int) int {
	n := 1
	for other := range k {
		if other == j {
			continue
		}
		above := (k + i) ^ other
		if i == m-1 {
			above = 1
		}
		quotient, _ := f.Div(above, j^other)
		n = f.Mul(n, quotient)
	}
	return n
}

// slowParity divides each number at once: by the one above it in the first row, and by the first one of its row,
// which the one in the corner has divided.
func slowParity(f *gf.Field, k, m int) matrix.Mat {
	return laid(m, k, func(i, j int) int {
		at := func(i, j int) int { return lagrange(f, k, m, i, j) }
		n, _ := f.Div(f.Mul(at(i, j), at(0, 0)), f.Mul(at(0, j), at(i, 0)))
		return n
	})
}

// both are the two calls, and what each tells, made another way.
func both() []struct {
	what string
	call
	slow func(f *gf.Field, k, m int) matrix.Mat
} {
	return []struct {
		what string
		call
		slow func(f *gf.Field, k, m int) matrix.Mat
	}{{"Extended", Extended, slowExtended}, {"Parity", Parity, slowParity}}
}

func TestExtendedAsItIsWritten(t *testing.T) {
	narrow, wide := gf.New(8, 0x11D), gf.New(16, 0x1100B)
	for _, c := range []struct {
		f    *gf.Field
		k, m int
		want matrix.Mat
	}{
		{narrow, 1, 1, matrix.Mat{{1}, {1}}},
		{narrow, 1, 3, matrix.Mat{{1}, {1}, {1}, {1}}},
		{narrow, 2, 1, matrix.Mat{{1, 0}, {1, 1}, {0, 1}}},
		{narrow, 2, 3, matrix.Mat{{1, 0}, {1, 1}, {1, 2}, {1, 3}, {0, 1}}},
		{narrow, 3, 1, matrix.Mat{{1, 0, 0}, {1, 1, 1}, {1, 2, 4}, {0, 0, 1}}},
		{narrow, 3, 2, matrix.Mat{{1, 0, 0}, {1, 1, 1}, {1, 2, 4}, {1, 3, 5}, {0, 0, 1}}},
		{narrow, 5, 1, matrix.Mat{{1, 0, 0, 0, 0}, {1, 1, 1, 1, 1}, {1, 2, 4, 8, 16}, {1, 3, 5, 15, 17}, {1, 4, 16, 64, 29}, {0, 0, 0, 0, 1}}},
		{wide, 5, 1, matrix.Mat{{1, 0, 0, 0, 0}, {1, 1, 1, 1, 1}, {1, 2, 4, 8, 16}, {1, 3, 5, 15, 17}, {1, 4, 16, 64, 256}, {0, 0, 0, 0, 1}}},
	} {
		got, e := Extended(c.f, c.k, c.m)
		wantMat(t, fmt.Sprintf("Extended of %d bits, %d and %d", c.f.Bits(), c.k, c.m), got, e, c.want)
	}
	// 2 to the power of 16 is the first that a polynomial of the degree 16 changes.
	if a := asked(t, Extended, wide, 19, 1); a[2][15] != 0x8000 || a[2][16] != 0x100B {
		t.Errorf("2 to the power of 15 and of 16: %d and %d", a[2][15], a[2][16])
	}
}

// 0 to the power of 0 is 1, and to any other 0.
func TestExtendedOfTheFirstRow(t *testing.T) {
	for _, f := range fields(t) {
		sides(func(k, m int) {
			want := make([]int, k)
			want[0] = 1
			if a := asked(t, Extended, f, k, m); !slices.Equal(a[0], want) {
				t.Errorf("Extended of %d bits, %d and %d begins with %v", f.Bits(), k, m, a[0])
			}
		})
	}
}

func TestExtendedOfTheLastRow(t *testing.T) {
	for _, f := range fields(t) {
		sides(func(k, m int) {
			want := make([]int, k)
			want[k-1] = 1
			a := asked(t, Extended, f, k, m)
			if len(a) != k+m || !slices.Equal(a[len(a)-1], want) {
				t.Errorf("Extended of %d bits, %d and %d: %v", f.Bits(), k, m, a)
			}
		})
	}
}

func TestParityAsItIsWritten(t *testing.T) {
	narrow, wide := gf.New(8, 0x11D), gf.New(16, 0x1100B)
	for _, c := range []struct {
		f    *gf.Field
		k, m int
		want matrix.Mat
	}{
		{narrow, 1, 1, matrix.Mat{{1}}},
		{narrow, 1, 3, matrix.Mat{{1}, {1}, {1}}},
		{narrow, 2, 1, matrix.Mat{{1, 1}}},
		{wide, 2, 1, matrix.Mat{{1, 1}}},
		// Ahead of any division the rows are 3 and 2, and 1 and 1: so what is left in the corner is 3 divided by 2.
		{narrow, 2, 2, matrix.Mat{{1, 1}, {1, 143}}},
		{wide, 2, 2, matrix.Mat{{1, 1}, {1, 0x8804}}},
		// Ahead of any division the rows are 1, 1 and 1, and 1 divided by 2, by 3 and by 6.
		{narrow, 3, 2, matrix.Mat{{1, 1, 1}, {1, 245, 244}}},
		{wide, 3, 2, matrix.Mat{{1, 1, 1}, {1, 0xF007, 0xF006}}},
		// As remembered from the manual of Jerasure (its program reed_sol_01, of 7, 7 and 8), not copied from it.
		{narrow, 7, 7, matrix.Mat{
			{1, 1, 1, 1, 1, 1, 1},
			{1, 199, 210, 240, 105, 121, 248},
			{1, 70, 91, 245, 56, 142, 167},
			{1, 170, 114, 42, 87, 78, 231},
			{1, 38, 236, 53, 233, 175, 65},
			{1, 64, 174, 232, 52, 237, 39},
			{1, 187, 104, 210, 211, 105, 186},
		}},
	} {
		got, e := Parity(c.f, c.k, c.m)
		wantMat(t, fmt.Sprintf("Parity of %d bits, %d and %d", c.f.Bits(), c.k, c.m), got, e, c.want)
	}
}

func TestOfAllSides(t *testing.T) {
	for _, c := range both() {
		for _, f := range fields(t) {
			for k := -1; k <= 22; k++ {
				for m := -1; m <= 22; m++ {
					got, e := c.call(f, k, m)
					what := fmt.Sprintf("%s of %d bits, %d and %d", c.what, f.Bits(), k, m)
					if k >= 1 && m >= 1 && k+m <= 20 {
						wantMat(t, what, got, e, c.slow(f, k, m))
					} else {
						refused(t, what, got, e)
					}
				}
			}
		}
	}
}

func TestOfWhatMayNotBe(t *testing.T) {
	for _, c := range both() {
		for _, f := range fields(t) {
			for _, k := range edges() {
				for _, m := range edges() {
					got, e := c.call(f, k, m)
					what := fmt.Sprintf("%s of %d and %d", c.what, k, m)
					// Neither is above 19 where both may be, so that their sum is asked of small ones alone.
					if 1 <= k && k <= 19 && 1 <= m && m <= 19 && k+m <= 20 {
						wantMat(t, what, got, e, c.slow(f, k, m))
					} else {
						refused(t, what, got, e)
					}
				}
			}
			// These sums, run over, would be numbers that may be.
			for _, pair := range [][2]int{
				{math.MaxInt, math.MinInt + 6}, {math.MinInt + 6, math.MaxInt}, {math.MinInt, math.MinInt + 5}, {math.MinInt/2 + 3, math.MinInt / 2},
				{math.MaxInt, math.MaxInt}, {math.MaxInt, 1}, {1, math.MaxInt}, {1<<32 + 3, 2 - 1<<32}, {25, -20}, {-20, 25},
			} {
				got, e := c.call(f, pair[0], pair[1])
				refused(t, fmt.Sprintf("%s of %d and %d", c.what, pair[0], pair[1]), got, e)
			}
		}
	}
}

func TestNoField(t *testing.T) {
	for _, c := range both() {
		for _, k := range edges() {
			for _, m := range edges() {
				got, e := c.call(nil, k, m)
				refused(t, fmt.Sprintf("%s of no field, %d and %d", c.what, k, m), got, e)
			}
		}
	}
}
