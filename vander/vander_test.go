package vander

import (
	"fmt"
	"math"
	"slices"
	"testing"

	"gambrel/api"
	"gambrel/gf"
	"gambrel/matrix"
)

// call is one of the package's three: they are asked alike, with a field and two numbers.
type call func(f *gf.Field, a, b int) (matrix.Mat, api.Errno)

// fields are the profiles' two, and another of each width, so that one that is not asked is found out.
func fields(t *testing.T) []*gf.Field {
	t.Helper()
	list := []*gf.Field{gf.New(8, 0x11D), gf.New(16, 0x1100B), gf.New(8, 0x12B), gf.New(16, 0x1002D)}
	if slices.Contains(list, nil) {
		t.Fatal("a field is nil")
	}
	return list
}

// edges are numbers of rows or columns, most of which may not be; sums of some of them run over.
func edges() []int {
	return []int{
		math.MinInt, math.MinInt + 1, math.MinInt + 20, math.MinInt / 2, math.MinInt32, -65536, -256, -21, -20, -19, -2, -1,
		0, 1, 2, 10, 11, 19, 20, 21, 22, 40, 255, 256, 257, 65535, 65536, 65537, math.MaxInt32, 1 << 31, 1 << 32, 1<<32 + 1,
		math.MaxInt/2 + 1, math.MaxInt - 20, math.MaxInt - 1, math.MaxInt,
	}
}

// same tells whether two matrices have the same rows.
func same(a, b matrix.Mat) bool {
	return slices.EqualFunc(a, b, func(x, y []int) bool { return slices.Equal(x, y) })
}

// wantMat holds what a call told against the matrix that is asked for.
func wantMat(t *testing.T, what string, got matrix.Mat, e api.Errno, want matrix.Mat) {
	t.Helper()
	if e != api.OK || !same(got, want) {
		t.Errorf("%s: %v, %v, not %v", what, got, e, want)
	}
}

// refused holds that a call told ErrArg, and no matrix.
func refused(t *testing.T, what string, got matrix.Mat, e api.Errno) {
	t.Helper()
	if e != api.ErrArg || len(got) != 0 {
		t.Errorf("%s: %v, %v, not refused", what, got, e)
	}
}

// asked is the call where nothing may be refused.
func asked(t *testing.T, c call, f *gf.Field, a, b int) matrix.Mat {
	t.Helper()
	got, e := c(f, a, b)
	if e != api.OK {
		t.Fatalf("of %d bits, %d and %d: %v", f.Bits(), a, b, e)
	}
	return got
}

// slowPow multiplies a so often.
func slowPow(f *gf.Field, a, n int) int {
	product := 1
	for range n {
		product = f.Mul(product, a)
	}
	return product
}

// laid lays numbers place by place, each row behind the one before.
func laid(rows, cols int, number func(i, j int) int) matrix.Mat {
	var a matrix.Mat
	for len(a) < rows {
		var row []int
		for len(row) < cols {
			row = append(row, number(len(a), len(row)))
		}
		a = append(a, row)
	}
	return a
}

// slowRaw and slowIsal multiply each power out.
func slowRaw(f *gf.Field, rows, cols int) matrix.Mat {
	return laid(rows, cols, func(i, j int) int { return slowPow(f, i, j) })
}

func slowIsal(f *gf.Field, k, m int) matrix.Mat {
	return laid(m, k, func(i, j int) int { return slowPow(f, 2, i*j) })
}

// slowSystem is by Lagrange's polynomials, without an inverse of a matrix: in the row i and the column j
// stands what the polynomial of a degree below k that is 1 at j, and 0 at all others below k, is at i.
func slowSystem(f *gf.Field, k, m int) matrix.Mat {
	return laid(k+m, k, func(i, j int) int {
		n := 1
		for other := range k {
			if other != j {
				quotient, _ := f.Div(i^other, j^other)
				n = f.Mul(n, quotient)
			}
		}
		return n
	})
}

func TestRawAsItIsWritten(t *testing.T) {
	narrow, wide := gf.New(8, 0x11D), gf.New(16, 0x1100B)
	for _, c := range []struct {
		f          *gf.Field
		rows, cols int
		want       matrix.Mat
	}{
		{narrow, 1, 1, matrix.Mat{{1}}},
		{narrow, 1, 4, matrix.Mat{{1, 0, 0, 0}}},
		{narrow, 4, 1, matrix.Mat{{1}, {1}, {1}, {1}}},
		{narrow, 4, 3, matrix.Mat{{1, 0, 0}, {1, 1, 1}, {1, 2, 4}, {1, 3, 5}}},
		{narrow, 3, 10, matrix.Mat{
			{1, 0, 0, 0, 0, 0, 0, 0, 0, 0}, {1, 1, 1, 1, 1, 1, 1, 1, 1, 1}, {1, 2, 4, 8, 16, 32, 64, 128, 29, 58},
		}},
		{wide, 3, 10, matrix.Mat{
			{1, 0, 0, 0, 0, 0, 0, 0, 0, 0}, {1, 1, 1, 1, 1, 1, 1, 1, 1, 1}, {1, 2, 4, 8, 16, 32, 64, 128, 256, 512},
		}},
	} {
		got, e := Raw(c.f, c.rows, c.cols)
		wantMat(t, fmt.Sprintf("Raw of %d bits, %d and %d", c.f.Bits(), c.rows, c.cols), got, e, c.want)
	}
	// 2 to the power of 16 is the first that a polynomial of the degree 16 changes.
	if a := asked(t, Raw, wide, 3, 20); a[2][15] != 0x8000 || a[2][16] != 0x100B {
		t.Errorf("2 to the power of 15 and of 16: %d and %d", a[2][15], a[2][16])
	}
}

func TestRawOfAllSides(t *testing.T) {
	for _, f := range fields(t) {
		for rows := 1; rows <= 20; rows++ {
			for cols := 1; cols <= 20; cols++ {
				got, e := Raw(f, rows, cols)
				wantMat(t, fmt.Sprintf("Raw of %d bits, %d and %d", f.Bits(), rows, cols), got, e, slowRaw(f, rows, cols))
			}
		}
	}
}

// 0 to the power of 0 is 1, and to any other 0.
func TestRawOfTheFirstRow(t *testing.T) {
	for _, f := range fields(t) {
		for rows := 1; rows <= 20; rows++ {
			for cols := 1; cols <= 20; cols++ {
				want := make([]int, cols)
				want[0] = 1
				if a := asked(t, Raw, f, rows, cols); !slices.Equal(a[0], want) {
					t.Errorf("Raw of %d bits, %d and %d begins with %v", f.Bits(), rows, cols, a[0])
				}
			}
		}
	}
}

// Raw asks no more than that each of its numbers is 1 to 20: both together may be above.
func TestRawOfWhatMayNotBe(t *testing.T) {
	for _, f := range fields(t) {
		for _, rows := range edges() {
			for _, cols := range edges() {
				got, e := Raw(f, rows, cols)
				what := fmt.Sprintf("Raw of %d and %d", rows, cols)
				if 1 <= rows && rows <= 20 && 1 <= cols && cols <= 20 {
					wantMat(t, what, got, e, slowRaw(f, rows, cols))
				} else {
					refused(t, what, got, e)
				}
			}
		}
	}
}

func TestSystemAsItIsWritten(t *testing.T) {
	for _, f := range []*gf.Field{gf.New(8, 0x11D), gf.New(16, 0x1100B)} {
		for _, c := range []struct {
			k, m int
			want matrix.Mat
		}{
			{1, 1, matrix.Mat{{1}, {1}}},
			{1, 3, matrix.Mat{{1}, {1}, {1}, {1}}},
			{2, 1, matrix.Mat{{1, 0}, {0, 1}, {3, 2}}},
			{2, 2, matrix.Mat{{1, 0}, {0, 1}, {3, 2}, {2, 3}}},
			{3, 2, matrix.Mat{{1, 0, 0}, {0, 1, 0}, {0, 0, 1}, {1, 1, 1}, {15, 8, 6}}},
			{4, 2, matrix.Mat{{1, 0, 0, 0}, {0, 1, 0, 0}, {0, 0, 1, 0}, {0, 0, 0, 1}, {27, 28, 18, 20}, {28, 27, 20, 18}}},
		} {
			got, e := System(f, c.k, c.m)
			wantMat(t, fmt.Sprintf("System of %d bits, %d and %d", f.Bits(), c.k, c.m), got, e, c.want)
		}
	}
}

func TestIsalAsItIsWritten(t *testing.T) {
	narrow, wide := gf.New(8, 0x11D), gf.New(16, 0x1100B)
	for _, c := range []struct {
		f    *gf.Field
		k, m int
		want matrix.Mat
	}{
		{narrow, 1, 1, matrix.Mat{{1}}},
		{narrow, 1, 3, matrix.Mat{{1}, {1}, {1}}},
		{narrow, 4, 1, matrix.Mat{{1, 1, 1, 1}}},
		{narrow, 2, 2, matrix.Mat{{1, 1}, {1, 2}}},
		{narrow, 3, 3, matrix.Mat{{1, 1, 1}, {1, 2, 4}, {1, 4, 16}}},
		{narrow, 2, 4, matrix.Mat{{1, 1}, {1, 2}, {1, 4}, {1, 8}}},
		{narrow, 5, 3, matrix.Mat{{1, 1, 1, 1, 1}, {1, 2, 4, 8, 16}, {1, 4, 16, 64, 29}}},
		{wide, 5, 3, matrix.Mat{{1, 1, 1, 1, 1}, {1, 2, 4, 8, 16}, {1, 4, 16, 64, 256}}},
		{wide, 9, 3, matrix.Mat{
			{1, 1, 1, 1, 1, 1, 1, 1, 1}, {1, 2, 4, 8, 16, 32, 64, 128, 256}, {1, 4, 16, 64, 256, 1024, 4096, 16384, 0x100B},
		}},
	} {
		got, e := Isal(c.f, c.k, c.m)
		wantMat(t, fmt.Sprintf("Isal of %d bits, %d and %d", c.f.Bits(), c.k, c.m), got, e, c.want)
	}
}

// coded are the two calls that take k and m, and what each tells, made another way.
func coded() []struct {
	what string
	call
	slow func(f *gf.Field, k, m int) matrix.Mat
} {
	return []struct {
		what string
		call
		slow func(f *gf.Field, k, m int) matrix.Mat
	}{{"System", System, slowSystem}, {"Isal", Isal, slowIsal}}
}

func TestSystemAndIsalOfAllSides(t *testing.T) {
	for _, c := range coded() {
		for _, f := range fields(t) {
			for k := -1; k <= 22; k++ {
				for m := -1; m <= 22; m++ {
					got, e := c.call(f, k, m)
					what := fmt.Sprintf("%s of %d bits, %d and %d", c.what, f.Bits(), k, m)
					if k >= 1 && m >= 1 && k+m <= 20 {
						wantMat(t, what, got, e, c.slow(f, k, m))
					} else {
						refused(t, what, got, e)
					}
				}
			}
		}
	}
}

func TestSystemAndIsalOfWhatMayNotBe(t *testing.T) {
	for _, c := range coded() {
		for _, f := range fields(t) {
			for _, k := range edges() {
				for _, m := range edges() {
					got, e := c.call(f, k, m)
					what := fmt.Sprintf("%s of %d and %d", c.what, k, m)
					// Neither is above 19 where both may be, so that their sum is asked of small ones alone.
					if 1 <= k && k <= 19 && 1 <= m && m <= 19 && k+m <= 20 {
						wantMat(t, what, got, e, c.slow(f, k, m))
					} else {
						refused(t, what, got, e)
					}
				}
			}
			// These sums, run over, would be numbers that may be.
			for _, pair := range [][2]int{{math.MaxInt, math.MinInt + 6}, {math.MinInt, math.MinInt + 5}, {math.MinInt/2 + 3, math.MinInt / 2}, {1<<32 + 3, 2 - 1<<32}, {25, -20}, {-20, 25}} {
				got, e := c.call(f, pair[0], pair[1])
				refused(t, fmt.Sprintf("%s of %d and %d", c.what, pair[0], pair[1]), got, e)
			}
		}
	}
}

func TestNoField(t *testing.T) {
	for what, c := range map[string]call{"Raw": Raw, "System": System, "Isal": Isal} {
		for _, a := range edges() {
			for _, b := range edges() {
				got, e := c(nil, a, b)
				refused(t, fmt.Sprintf("%s of no field, %d and %d", what, a, b), got, e)
			}
		}
	}
}
