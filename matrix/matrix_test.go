package matrix

import (
	"fmt"
	"math"
	"math/rand"
	"slices"
	"testing"

	"gambrel/api"
	"gambrel/gf"
)

// numbers are a source of test inputs that is the same in each run.
func numbers() *rand.Rand { return rand.New(rand.NewSource(4)) }

// fields are the profiles' two, and another of each width, so that one that is not asked is found out.
func fields(t *testing.T) []*gf.Field {
	t.Helper()
	list := []*gf.Field{gf.New(8, 0x11D), gf.New(16, 0x1100B), gf.New(8, 0x12B), gf.New(16, 0x1002D)}
	if slices.Contains(list, nil) {
		t.Fatal("a field is nil")
	}
	return list
}

// strangers are what is no number of the field.
func strangers(f *gf.Field) []int {
	size := f.Size()
	return []int{-1, -2, -size, -size + 1, math.MinInt, math.MinInt32, size, size + 1, 2*size - 1, 2 * size, 1 << 32, 1<<32 + 1, math.MaxInt32, math.MaxInt}
}

// some is a matrix of numbers of the field by chance.
func some(r *rand.Rand, f *gf.Field, rows, cols int) Mat {
	a := make(Mat, rows)
	for i := range a {
		a[i] = someNumbers(r, f, cols)
	}
	return a
}

// someNumbers are n numbers of the field by chance.
func someNumbers(r *rand.Rand, f *gf.Field, n int) []int {
	l := make([]int, n)
	for i := range l {
		l[i] = r.Intn(f.Size())
	}
	return l
}

// filled is a matrix that has n everywhere.
func filled(rows, cols, n int) Mat {
	a := make(Mat, rows)
	for i := range a {
		a[i] = slices.Repeat([]int{n}, cols)
	}
	return a
}

// same tells whether two matrices have the same rows.
func same(a, b Mat) bool {
	return slices.EqualFunc(a, b, func(x, y []int) bool { return slices.Equal(x, y) })
}

// slowMul multiplies place by place, without columns.
func slowMul(f *gf.Field, a, b Mat) Mat {
	product := filled(len(a), len(b[0]), 0)
	for i := range a {
		for j := range b[0] {
			for k := range b {
				product[i][j] ^= f.Mul(a[i][k], b[k][j])
			}
		}
	}
	return product
}

// wantMat holds what a call told against the matrix that is asked for.
func wantMat(t *testing.T, what string, got Mat, e api.Errno, want Mat) {
	t.Helper()
	if e != api.OK || !same(got, want) {
		t.Errorf("%s: %v, %v, not %v", what, got, e, want)
	}
}

// refused holds that a call told ErrArg, and no matrix.
func refused(t *testing.T, what string, got Mat, e api.Errno) {
	t.Helper()
	if e != api.ErrArg || len(got) != 0 {
		t.Errorf("%s: %v, %v, not refused", what, got, e)
	}
}

// refusedRow holds that a call told ErrArg, and no numbers.
func refusedRow(t *testing.T, what string, got []int, e api.Errno) {
	t.Helper()
	if e != api.ErrArg || len(got) != 0 {
		t.Errorf("%s: %v, %v, not refused", what, got, e)
	}
}

// unlike is a matrix, and in what it is unlike those that may be.
type unlike struct {
	what string
	a    Mat
}

// wrongs are matrices that may not be in this field.
func wrongs(f *gf.Field) []unlike {
	list := []unlike{
		{"nil", nil},
		{"no rows", Mat{}},
		{"a row that is nil", Mat{nil}},
		{"no numbers in a row", Mat{{}}},
		{"no numbers in two rows", Mat{{}, nil}},
		{"no numbers in 20 rows", filled(20, 0, 0)},
		{"21 rows of one number", filled(21, 1, 1)},
		{"21 rows of 20", filled(21, 20, 1)},
		{"21 rows of 21", filled(21, 21, 1)},
		{"one row of 21", filled(1, 21, 1)},
		{"20 rows of 21", filled(20, 21, 1)},
		{"100 rows of 100", filled(100, 100, 1)},
		{"the second is longer", Mat{{1}, {1, 2}}},
		{"the second is shorter", Mat{{1, 2}, {1}}},
		{"the second is empty", Mat{{1, 2}, {}}},
		{"the second is nil", Mat{{1}, nil}},
		{"the first is empty", Mat{{}, {1}}},
		{"the middle is longer", Mat{{1, 2}, {1, 2, 3}, {1, 2}}},
		{"the last is shorter", Mat{{1, 2}, {1, 2}, {1}}},
		{"the last is too long", append(filled(3, 20, 1), make([]int, 21))},
	}
	for _, n := range strangers(f) {
		list = append(list,
			unlike{fmt.Sprintf("only %d", n), Mat{{n}}},
			unlike{fmt.Sprintf("%d first", n), Mat{{n, 1}, {1, 1}}},
			unlike{fmt.Sprintf("%d at the first row's end", n), Mat{{1, n}, {1, 1}}},
			unlike{fmt.Sprintf("%d in the last row", n), Mat{{1, 1}, {n, 1}}},
			unlike{fmt.Sprintf("%d last", n), Mat{{1, 1}, {1, n}}},
		)
	}
	return list
}

func TestMayOfAllSides(t *testing.T) {
	for _, f := range fields(t) {
		for rows := range 24 {
			for cols := range 24 {
				want := 1 <= rows && rows <= 20 && 1 <= cols && cols <= 20
				for _, n := range []int{0, 1, f.Size() - 1} {
					if May(f, filled(rows, cols, n)) != want {
						t.Errorf("%d bits, %d rows of %d times %d: %v", f.Bits(), rows, cols, n, !want)
					}
				}
				if May(nil, filled(rows, cols, 0)) {
					t.Errorf("%d rows of %d, of no field", rows, cols)
				}
			}
		}
	}
}

func TestMayOfEachNumber(t *testing.T) {
	for _, f := range fields(t) {
		for n := range f.Size() {
			if !May(f, Mat{{n}}) {
				t.Fatalf("%d bits: %d is refused", f.Bits(), n)
			}
		}
		// Wherever what is no number stands, it is seen.
		for i := range 20 {
			for j := range 20 {
				for _, n := range []int{-1, f.Size()} {
					a := filled(20, 20, 1)
					a[i][j] = n
					if May(f, a) {
						t.Errorf("%d bits: %d in the row %d, at %d", f.Bits(), n, i, j)
					}
				}
			}
		}
	}
	// What is a number hangs on the field.
	narrow, wide := gf.New(8, 0x11D), gf.New(16, 0x1100B)
	for _, n := range []int{256, 257, 65535} {
		if a := (Mat{{1, n}}); May(narrow, a) || !May(wide, a) {
			t.Errorf("%d: of 8 bits %v, of 16 bits %v", n, May(narrow, a), May(wide, a))
		}
	}
}

func TestMayOfARowThatIsNotAsLong(t *testing.T) {
	f := gf.New(8, 0x11D)
	for i := range 20 {
		for _, n := range []int{0, 1, 9, 11, 20, 21} {
			a := filled(20, 10, 1)
			a[i] = slices.Repeat([]int{1}, n)
			if May(f, a) {
				t.Errorf("the row %d has %d numbers, the others 10", i, n)
			}
		}
	}
}

func TestMayOfWhatMayNotBe(t *testing.T) {
	for _, f := range fields(t) {
		for _, c := range wrongs(f) {
			if May(f, c.a) {
				t.Errorf("%d bits: %s", f.Bits(), c.what)
			}
		}
	}
	for _, c := range wrongs(nil) {
		if May(nil, c.a) {
			t.Errorf("no field: %s", c.what)
		}
	}
}

func TestIdentity(t *testing.T) {
	for n := 1; n <= 20; n++ {
		a := Identity(n)
		if len(a) != n {
			t.Fatalf("Identity(%d) has %d rows", n, len(a))
		}
		for i, row := range a {
			if len(row) != n {
				t.Fatalf("Identity(%d) has %d numbers in the row %d", n, len(row), i)
			}
			for j, got := range row {
				if (i == j && got != 1) || (i != j && got != 0) {
					t.Errorf("Identity(%d): %d in the row %d, at %d", n, got, i, j)
				}
			}
		}
		for _, f := range fields(t) {
			if !May(f, a) {
				t.Errorf("Identity(%d) may not be", n)
			}
		}
	}
	for _, n := range []int{0, -1, -2, -20, -21, 21, 22, 256, 1 << 31, 1<<32 + 1, math.MinInt32, math.MinInt, math.MaxInt} {
		if a := Identity(n); len(a) != 0 {
			t.Errorf("Identity(%d): %v", n, a)
		}
	}
}

func TestPickAsItIsWritten(t *testing.T) {
	f := gf.New(8, 0x11D)
	a := Mat{{1, 2}, {3, 4}, {5, 6}}
	for _, c := range []struct {
		rows []int
		want Mat
	}{
		{[]int{0}, Mat{{1, 2}}},
		{[]int{2}, Mat{{5, 6}}},
		{[]int{0, 1, 2}, a},
		{[]int{2, 1, 0}, Mat{{5, 6}, {3, 4}, {1, 2}}},
		{[]int{2, 0, 2}, Mat{{5, 6}, {1, 2}, {5, 6}}},
		{[]int{1, 1, 1, 1}, Mat{{3, 4}, {3, 4}, {3, 4}, {3, 4}}},
		{slices.Repeat([]int{2}, 20), slices.Repeat(Mat{{5, 6}}, 20)},
	} {
		got, e := Pick(f, a, c.rows)
		wantMat(t, fmt.Sprint("Pick of ", c.rows), got, e, c.want)
	}
}

func TestPickOfAllSides(t *testing.T) {
	r := numbers()
	for _, f := range fields(t) {
		for rows := 1; rows <= 20; rows++ {
			a := some(r, f, rows, 1+r.Intn(20))
			for count := range 25 {
				places := make([]int, count)
				want := make(Mat, count)
				for i := range places {
					places[i] = r.Intn(rows)
					want[i] = a[places[i]]
				}
				got, e := Pick(f, a, places)
				if 1 <= count && count <= 20 {
					wantMat(t, "Pick", got, e, want)
					continue
				}
				refused(t, fmt.Sprintf("%d rows to pick", count), got, e)
			}
		}
	}
}

func TestPickOfWhatMayNotBe(t *testing.T) {
	for _, f := range fields(t) {
		a := Mat{{1, 2}, {3, 4}, {5, 6}}
		for _, rows := range [][]int{nil, {}, make([]int, 21), make([]int, 22), make([]int, 1000)} {
			got, e := Pick(f, a, rows)
			refused(t, fmt.Sprintf("%d rows to pick", len(rows)), got, e)
		}
		for _, place := range []int{-1, -2, -3, 3, 4, 20, 21, 1 << 32, 1<<32 + 1, math.MinInt32, math.MinInt, math.MaxInt} {
			for _, rows := range [][]int{{place}, {place, 0}, {0, place}, {0, place, 1}} {
				got, e := Pick(f, a, rows)
				refused(t, fmt.Sprint("Pick of ", rows), got, e)
			}
		}
		for _, c := range wrongs(f) {
			for _, rows := range [][]int{nil, {0}, {0, 1}, {21}} {
				got, e := Pick(f, c.a, rows)
				refused(t, "Pick of "+c.what, got, e)
			}
		}
		// A row that isn't picked makes a matrix wrong all the same.
		got, e := Pick(f, Mat{{1, 2}, {3, f.Size()}}, []int{0})
		refused(t, "Pick beside what is no number", got, e)
		// The edge goes with the number of rows.
		for n := 1; n <= 20; n++ {
			got, e := Pick(f, filled(n, 2, n), []int{n - 1})
			wantMat(t, "the last row", got, e, Mat{{n, n}})
			got, e = Pick(f, filled(n, 2, n), []int{n})
			refused(t, "behind the last row", got, e)
		}
	}
}

func TestJoinAsItIsWritten(t *testing.T) {
	f := gf.New(8, 0x11D)
	a, b := Mat{{1, 2}, {3, 4}}, Mat{{5, 6}}
	got, e := Join(f, a, b)
	wantMat(t, "Join", got, e, Mat{{1, 2}, {3, 4}, {5, 6}})
	got, e = Join(f, b, a)
	wantMat(t, "turned round", got, e, Mat{{5, 6}, {1, 2}, {3, 4}})
	got, e = Join(f, a, a)
	wantMat(t, "with itself", got, e, Mat{{1, 2}, {3, 4}, {1, 2}, {3, 4}})
}

func TestJoinOfAllSides(t *testing.T) {
	r := numbers()
	for _, f := range fields(t) {
		for m := 1; m <= 20; m++ {
			for n := 1; n <= 20; n++ {
				cols := 1 + r.Intn(20)
				a, b := some(r, f, m, cols), some(r, f, n, cols)
				got, e := Join(f, a, b)
				if m+n > 20 {
					refused(t, fmt.Sprintf("%d and %d rows", m, n), got, e)
					continue
				}
				wantMat(t, "Join", got, e, slices.Concat(a, b))
			}
		}
	}
}

func TestJoinOfWhatMayNotBe(t *testing.T) {
	for _, f := range fields(t) {
		for m := 1; m <= 20; m++ {
			for n := 1; n <= 20; n++ {
				got, e := Join(f, filled(3, m, 1), filled(2, n, 1))
				if m != n {
					refused(t, fmt.Sprintf("rows of %d and of %d", m, n), got, e)
					continue
				}
				wantMat(t, "Join", got, e, filled(5, n, 1))
			}
		}
		for _, c := range wrongs(f) {
			cols := 1
			if len(c.a) > 0 && len(c.a[0]) > 0 {
				cols = len(c.a[0])
			}
			right := filled(2, cols, 1)
			got, e := Join(f, c.a, right)
			refused(t, "Join first of "+c.what, got, e)
			got, e = Join(f, right, c.a)
			refused(t, "Join second of "+c.what, got, e)
			got, e = Join(f, c.a, c.a)
			refused(t, "Join twice of "+c.what, got, e)
		}
	}
}
