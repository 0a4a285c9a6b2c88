package matrix

import (
	"fmt"
	"slices"
	"testing"

	"gambrel/api"
	"gambrel/gf"
)

func TestMulAsItIsWritten(t *testing.T) {
	narrow, wide := gf.New(8, 0x11D), gf.New(16, 0x1100B)
	for _, c := range []struct {
		f       *gf.Field
		a, b, p Mat
	}{
		{narrow, Mat{{2, 3}}, Mat{{1}, {1}}, Mat{{1}}},
		{narrow, Mat{{2}}, Mat{{128}}, Mat{{29}}},
		{wide, Mat{{2}}, Mat{{128}}, Mat{{256}}},
		{wide, Mat{{2}}, Mat{{0x8000}}, Mat{{0x100B}}},
		{narrow, Mat{{1}, {1}}, Mat{{2, 3}}, Mat{{2, 3}, {2, 3}}},
		{narrow, Mat{{1, 2}, {3, 4}, {5, 6}}, Mat{{1, 0}, {2, 1}}, Mat{{5, 2}, {11, 4}, {9, 6}}},
		{narrow, Mat{{0, 1}, {1, 0}}, Mat{{7, 8, 9}, {4, 5, 6}}, Mat{{4, 5, 6}, {7, 8, 9}}},
		{narrow, Mat{{1, 1, 1}}, Mat{{1}, {2}, {4}}, Mat{{7}}},
		{narrow, Mat{{5, 5}}, Mat{{9}, {9}}, Mat{{0}}},
	} {
		got, e := Mul(c.f, c.a, c.b)
		wantMat(t, "Mul", got, e, c.p)
	}
}

func TestMulIsTheSumOfProducts(t *testing.T) {
	r := numbers()
	for _, f := range fields(t) {
		for n := 1; n <= 20; n++ {
			for _, c := range [][2]int{{1, 1}, {1, 20}, {20, 1}, {20, 20}, {1 + r.Intn(20), 1 + r.Intn(20)}} {
				a, b := some(r, f, c[0], n), some(r, f, n, c[1])
				got, e := Mul(f, a, b)
				wantMat(t, "Mul", got, e, slowMul(f, a, b))
				if !May(f, got) || len(got) != c[0] || len(got[0]) != c[1] {
					t.Errorf("a product of %d rows and %d columns: %v", c[0], c[1], got)
				}
			}
		}
	}
}

func TestMulOfWhatDoesNotFit(t *testing.T) {
	for _, f := range fields(t) {
		for m := 1; m <= 20; m++ {
			for n := 1; n <= 20; n++ {
				got, e := Mul(f, filled(2, m, 1), filled(n, 3, 1))
				if m != n {
					refused(t, fmt.Sprintf("rows of %d, by %d rows", m, n), got, e)
					continue
				}
				wantMat(t, "Mul", got, e, filled(2, 3, n%2))
			}
		}
		// They must fit this way round, and in no other.
		a, b := filled(2, 3, 1), filled(3, 5, 1)
		got, e := Mul(f, b, a)
		refused(t, "turned round", got, e)
		got, e = Mul(f, a, filled(2, 3, 1))
		refused(t, "sides that are the same", got, e)
	}
}

func TestMulOfWhatMayNotBe(t *testing.T) {
	for _, f := range fields(t) {
		for _, c := range wrongs(f) {
			// What stands beside it fits, as far as anything does.
			rows, cols := len(c.a), 1
			if rows > 0 && len(c.a[0]) > 0 {
				cols = len(c.a[0])
			}
			got, e := Mul(f, c.a, filled(min(cols, 20), 2, 1))
			refused(t, "Mul first of "+c.what, got, e)
			got, e = Mul(f, filled(2, max(1, min(rows, 20)), 1), c.a)
			refused(t, "Mul second of "+c.what, got, e)
			got, e = Mul(f, c.a, c.a)
			refused(t, "Mul twice of "+c.what, got, e)
			// 0 times what is no number is refused too.
			got, e = Mul(f, filled(2, max(1, min(rows, 20)), 0), c.a)
			refused(t, "0 times "+c.what, got, e)
		}
	}
}

func TestApplyAsItIsWritten(t *testing.T) {
	narrow, wide := gf.New(8, 0x11D), gf.New(16, 0x1100B)
	for _, c := range []struct {
		f    *gf.Field
		a    Mat
		v, w []int
	}{
		{narrow, Mat{{2, 3}}, []int{1, 1}, []int{1}},
		{narrow, Mat{{1, 2}, {3, 4}, {5, 6}}, []int{1, 1}, []int{3, 7, 3}},
		{narrow, Mat{{1, 2}, {3, 4}, {5, 6}}, []int{1, 0}, []int{1, 3, 5}},
		{narrow, Mat{{1, 2}, {3, 4}, {5, 6}}, []int{0, 0}, []int{0, 0, 0}},
		{narrow, Mat{{2}, {1}}, []int{128}, []int{29, 128}},
		{wide, Mat{{2}, {1}}, []int{0x8000}, []int{0x100B, 0x8000}},
	} {
		got, e := Apply(c.f, c.a, c.v)
		if e != api.OK || !slices.Equal(got, c.w) {
			t.Errorf("Apply of %v and %v: %v, %v, not %v", c.a, c.v, got, e, c.w)
		}
	}
}

// asColumn is v as a matrix of one column.
func asColumn(v []int) Mat {
	column := make(Mat, len(v))
	for i, n := range v {
		column[i] = []int{n}
	}
	return column
}

func TestApplyIsMulOfAColumn(t *testing.T) {
	r := numbers()
	for _, f := range fields(t) {
		for rows := 1; rows <= 20; rows++ {
			for cols := 1; cols <= 20; cols++ {
				a, v := some(r, f, rows, cols), someNumbers(r, f, cols)
				got, e := Apply(f, a, v)
				wantMat(t, "Apply", asColumn(got), e, slowMul(f, a, asColumn(v)))
				product, e := Mul(f, a, asColumn(v))
				wantMat(t, "Mul", product, e, asColumn(got))
			}
		}
	}
}

func TestApplyOfWhatDoesNotFit(t *testing.T) {
	for _, f := range fields(t) {
		for cols := 1; cols <= 20; cols++ {
			for n := range 25 {
				got, e := Apply(f, filled(3, cols, 1), slices.Repeat([]int{1}, n))
				if n != cols {
					refusedRow(t, fmt.Sprintf("rows of %d, and %d numbers", cols, n), got, e)
					continue
				}
				if e != api.OK || !slices.Equal(got, []int{n % 2, n % 2, n % 2}) {
					t.Errorf("%d ones: %v, %v", n, got, e)
				}
			}
		}
		got, e := Apply(f, Mat{{1}}, nil)
		refusedRow(t, "nil", got, e)
	}
}

func TestApplyOfWhatMayNotBe(t *testing.T) {
	for _, f := range fields(t) {
		for _, c := range wrongs(f) {
			var v []int
			if len(c.a) > 0 {
				v = slices.Repeat([]int{1}, len(c.a[0]))
			}
			got, e := Apply(f, c.a, v)
			refusedRow(t, "Apply of "+c.what, got, e)
			got, e = Apply(f, c.a, []int{1})
			refusedRow(t, "Apply to 1 of "+c.what, got, e)
		}
		for _, n := range strangers(f) {
			for _, v := range [][]int{{n, 1}, {1, n}, {n, n}} {
				for _, a := range []Mat{{{1, 1}}, {{0, 0}}, {{1, 2}, {3, 4}, {5, 6}}} {
					got, e := Apply(f, a, v)
					refusedRow(t, fmt.Sprintf("Apply to %v", v), got, e)
				}
			}
		}
	}
}

func TestNoFieldIsRefused(t *testing.T) {
	for _, a := range append(wrongs(nil), unlike{"a matrix that may be", Mat{{1, 2}, {3, 4}}}, unlike{"only 0", Mat{{0}}}) {
		got, e := Pick(nil, a.a, []int{0})
		refused(t, "Pick of "+a.what, got, e)
		got, e = Join(nil, a.a, a.a)
		refused(t, "Join of "+a.what, got, e)
		got, e = Mul(nil, a.a, a.a)
		refused(t, "Mul of "+a.what, got, e)
		for _, v := range [][]int{nil, {0}, {0, 0}, {1, 2}} {
			row, e := Apply(nil, a.a, v)
			refusedRow(t, "Apply of "+a.what, row, e)
		}
	}
}
