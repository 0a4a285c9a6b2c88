package invert

import (
	"fmt"
	"math"
	"math/rand"
	"slices"
	"testing"

	"gambrel/api"
	"gambrel/gf"
	"gambrel/matrix"
)

// numbers are a source of test inputs that is the same in each run.
func numbers() *rand.Rand { return rand.New(rand.NewSource(5)) }

// fields are the profiles' two, and another of each width, so that one that is not asked is found out.
func fields(t *testing.T) []*gf.Field {
	t.Helper()
	list := []*gf.Field{gf.New(8, 0x11D), gf.New(16, 0x1100B), gf.New(8, 0x12B), gf.New(16, 0x1002D)}
	if slices.Contains(list, nil) {
		t.Fatal("a field is nil")
	}
	return list
}

// strangers are what is no number of the field.
func strangers(f *gf.Field) []int {
	size := f.Size()
	return []int{-1, -2, -size, -size + 1, math.MinInt, math.MinInt32, size, size + 1, 2*size - 1, 2 * size, 1 << 32, 1<<32 + 1, math.MaxInt32, math.MaxInt}
}

// someNumbers are n numbers of the field by chance.
func someNumbers(r *rand.Rand, f *gf.Field, n int) []int {
	l := make([]int, n)
	for i := range l {
		l[i] = r.Intn(f.Size())
	}
	return l
}

// filled is a matrix that has n everywhere.
func filled(rows, cols, n int) matrix.Mat {
	a := make(matrix.Mat, rows)
	for i := range a {
		a[i] = slices.Repeat([]int{n}, cols)
	}
	return a
}

// same tells whether two matrices have the same rows.
func same(a, b matrix.Mat) bool {
	return slices.EqualFunc(a, b, func(x, y []int) bool { return slices.Equal(x, y) })
}

// mul and apply are the calls where nothing may be refused.
func mul(t *testing.T, f *gf.Field, a, b matrix.Mat) matrix.Mat {
	t.Helper()
	got, e := matrix.Mul(f, a, b)
	if e != api.OK {
		t.Fatalf("Mul of %v and %v: %v", a, b, e)
	}
	return got
}

func apply(t *testing.T, f *gf.Field, a matrix.Mat, v []int) []int {
	t.Helper()
	got, e := matrix.Apply(f, a, v)
	if e != api.OK {
		t.Fatalf("Apply of %v and %v: %v", a, v, e)
	}
	return got
}

// staircase is a matrix whose first rows, so many as rank, have pivots in columns by chance, and whose others are 0.
func staircase(r *rand.Rand, f *gf.Field, rows, cols, rank int) matrix.Mat {
	a := filled(rows, cols, 0)
	places := r.Perm(cols)[:rank]
	slices.Sort(places)
	for i, place := range places {
		copy(a[i][place:], someNumbers(r, f, cols-place))
		a[i][place] = 1 + r.Intn(f.Size()-1)
	}
	return a
}

// able is a matrix by chance that has an inverse: a lower triangle times an upper one, its rows shuffled.
func able(t *testing.T, r *rand.Rand, f *gf.Field, n int) matrix.Mat {
	t.Helper()
	lower := filled(n, n, 0)
	for i := range lower {
		copy(lower[i], someNumbers(r, f, i))
		lower[i][i] = 1 + r.Intn(f.Size()-1)
	}
	a := mul(t, f, lower, staircase(r, f, n, n, n))
	r.Shuffle(n, func(i, j int) { a[i], a[j] = a[j], a[i] })
	return a
}

// ranked is a matrix by chance of that rank, in which no row and no column is plainly 0.
func ranked(t *testing.T, r *rand.Rand, f *gf.Field, rows, cols, rank int) matrix.Mat {
	t.Helper()
	return mul(t, f, able(t, r, f, rows), staircase(r, f, rows, cols, rank))
}

// without is a but for one row and one column.
func without(a matrix.Mat, row, column int) matrix.Mat {
	var rest matrix.Mat
	for i := range a {
		if i != row {
			rest = append(rest, slices.Concat(a[i][:column], a[i][column+1:]))
		}
	}
	return rest
}

// determinant goes along the first row; no sign changes, since a sum is an exclusive or.
func determinant(f *gf.Field, a matrix.Mat) int {
	if len(a) == 0 {
		return 1
	}
	sum := 0
	for j, n := range a[0] {
		sum ^= f.Mul(n, determinant(f, without(a, 0, j)))
	}
	return sum
}

// slowInverse is by determinants, without a reduction of rows; nil, if there is none.
func slowInverse(f *gf.Field, a matrix.Mat) matrix.Mat {
	whole := determinant(f, a)
	if whole == 0 {
		return nil
	}
	inverse := filled(len(a), len(a), 0)
	for i := range a {
		for j := range a {
			inverse[j][i], _ = f.Div(determinant(f, without(a, i, j)), whole)
		}
	}
	return inverse
}

// wantMat holds what a call told against the matrix that is asked for.
func wantMat(t *testing.T, what string, got matrix.Mat, e api.Errno, want matrix.Mat) {
	t.Helper()
	if e != api.OK || !same(got, want) {
		t.Errorf("%s: %v, %v, not %v", what, got, e, want)
	}
}

// refused holds that a call told this error, and nothing beside it.
func refused[T any](t *testing.T, what string, got []T, e, want api.Errno) {
	t.Helper()
	if e != want || len(got) != 0 {
		t.Errorf("%s: %v, %v, not refused with %v", what, got, e, want)
	}
}

// unlike is a matrix, and in what it is unlike those that may be.
type unlike struct {
	what string
	a    matrix.Mat
}

// wrongs are matrices that may not be in this field.
func wrongs(f *gf.Field) []unlike {
	list := []unlike{
		{"nil", nil},
		{"no rows", matrix.Mat{}},
		{"a row that is nil", matrix.Mat{nil}},
		{"no numbers in a row", matrix.Mat{{}}},
		{"no numbers in two rows", matrix.Mat{{}, nil}},
		{"no numbers in 20 rows", filled(20, 0, 0)},
		{"21 rows of one number", filled(21, 1, 1)},
		{"21 rows of 20", filled(21, 20, 1)},
		{"one row of 21", filled(1, 21, 1)},
		{"20 rows of 21", filled(20, 21, 1)},
		{"21 rows of 21 noughts", filled(21, 21, 0)},
		{"100 rows of 100", filled(100, 100, 1)},
		{"the second is longer", matrix.Mat{{1, 0}, {0, 1, 2}}},
		{"the second is shorter", matrix.Mat{{1, 0}, {1}}},
		{"the second is empty", matrix.Mat{{1, 2}, {}}},
		{"the second is nil", matrix.Mat{{1, 2}, nil}},
		{"the first is empty", matrix.Mat{{}, {1, 2}}},
		{"the first is longer", matrix.Mat{{1, 2, 3}, {1, 2}}},
		{"the last is shorter", matrix.Mat{{1, 0, 0}, {0, 1, 0}, {0, 0}}},
	}
	identity := make(matrix.Mat, 21)
	for i := range identity {
		identity[i] = make([]int, 21)
		identity[i][i] = 1
	}
	list = append(list, unlike{"an identity of 21 rows", identity})
	for _, n := range strangers(f) {
		list = append(list,
			unlike{fmt.Sprintf("only %d", n), matrix.Mat{{n}}},
			unlike{fmt.Sprintf("%d first", n), matrix.Mat{{n, 1}, {1, 0}}},
			unlike{fmt.Sprintf("%d at the first row's end", n), matrix.Mat{{1, n}, {0, 1}}},
			unlike{fmt.Sprintf("%d in the last row", n), matrix.Mat{{1, 0}, {n, 1}}},
			unlike{fmt.Sprintf("%d last", n), matrix.Mat{{0, 1}, {1, n}}},
			unlike{fmt.Sprintf("%d beside noughts", n), matrix.Mat{{0, 0}, {0, n}}},
		)
	}
	return list
}

// singulars are square matrices that have no inverse.
func singulars() []matrix.Mat {
	list := []matrix.Mat{
		{{0}},
		{{1, 1}, {1, 1}},
		{{1, 2}, {2, 4}},
		{{0, 0}, {1, 2}},
		{{1, 2}, {0, 0}},
		{{0, 1}, {0, 2}},
		{{1, 0}, {2, 0}},
		{{1, 2, 3}, {4, 5, 6}, {5, 7, 5}},
		{{0, 1, 2}, {0, 3, 4}, {0, 5, 6}},
		{{1, 0, 2}, {3, 0, 4}, {5, 0, 6}},
		{{1, 2, 0}, {3, 4, 0}, {5, 6, 0}},
	}
	for n := 1; n <= 20; n++ {
		list = append(list, filled(n, n, 0))
		// The last row, or the first one, is all that is missing for an inverse.
		last, first := matrix.Identity(n), matrix.Identity(n)
		last[n-1][n-1], first[0][0] = 0, 0
		list = append(list, last, first)
		if n > 1 {
			list = append(list, filled(n, n, 1))
		}
	}
	return list
}

func TestInverseAsItIsWritten(t *testing.T) {
	narrow, wide := gf.New(8, 0x11D), gf.New(16, 0x1100B)
	for _, c := range []struct {
		f    *gf.Field
		a, w matrix.Mat
	}{
		{narrow, matrix.Mat{{1}}, matrix.Mat{{1}}},
		{narrow, matrix.Mat{{2}}, matrix.Mat{{142}}},
		{wide, matrix.Mat{{2}}, matrix.Mat{{0x8805}}},
		{narrow, matrix.Mat{{0, 1}, {1, 0}}, matrix.Mat{{0, 1}, {1, 0}}},
		{narrow, matrix.Mat{{0, 2}, {1, 0}}, matrix.Mat{{0, 1}, {142, 0}}},
		{narrow, matrix.Mat{{1, 1}, {0, 1}}, matrix.Mat{{1, 1}, {0, 1}}},
		{narrow, matrix.Mat{{1, 2}, {0, 1}}, matrix.Mat{{1, 2}, {0, 1}}},
		{narrow, matrix.Mat{{0, 1, 0}, {0, 0, 1}, {1, 0, 0}}, matrix.Mat{{0, 0, 1}, {1, 0, 0}, {0, 1, 0}}},
		// 1 and 1, 1 and 2: its determinant is 3, whose inverse is 244.
		{narrow, matrix.Mat{{1, 1}, {1, 2}}, matrix.Mat{{245, 244}, {244, 244}}},
	} {
		got, e := Inverse(c.f, c.a)
		wantMat(t, fmt.Sprint("Inverse of ", c.a), got, e, c.w)
	}
	got, e := Inverse(narrow, matrix.Mat{{1, 1}, {1, 1}})
	refused(t, "1 and 1, twice", got, e, api.ErrSing)
}

func TestInverseOfEachNumber(t *testing.T) {
	for _, f := range fields(t) {
		got, e := Inverse(f, matrix.Mat{{0}})
		refused(t, "0", got, e, api.ErrSing)
		for n := 1; n < f.Size(); n++ {
			want, _ := f.Inv(n)
			if got, e := Inverse(f, matrix.Mat{{n}}); e != api.OK || !same(got, matrix.Mat{{want}}) {
				t.Fatalf("%d bits: Inverse of %d: %v, %v", f.Bits(), n, got, e)
			}
		}
	}
}

// every goes through all matrices of n rows that have only these numbers.
func every(n int, of []int, do func(a matrix.Mat)) {
	a := filled(n, n, of[0])
	var fill func(place int)
	fill = func(place int) {
		if place == n*n {
			do(a)
			return
		}
		for _, x := range of {
			a[place/n][place%n] = x
			fill(place + 1)
		}
	}
	fill(0)
}

// Among these are noughts at all places where a pivot is sought, and many a matrix without an inverse.
func TestInverseOfAllSmallOnes(t *testing.T) {
	for _, f := range fields(t) {
		hold := func(a matrix.Mat) {
			got, e := Inverse(f, a)
			if want := slowInverse(f, a); want != nil {
				wantMat(t, fmt.Sprint("Inverse of ", a), got, e, want)
			} else {
				refused(t, fmt.Sprint("Inverse of ", a), got, e, api.ErrSing)
			}
		}
		every(2, []int{0, 1, 2, 3, 4, f.Size() - 1}, hold)
		every(3, []int{0, 1, f.Size() - 1}, hold)
	}
	f := gf.New(8, 0x11D)
	every(4, []int{0, 1}, func(a matrix.Mat) {
		got, e := Inverse(f, a)
		if want := slowInverse(f, a); e == api.ErrSing != (want == nil) || !same(got, want) {
			t.Errorf("Inverse of %v: %v, %v, not %v", a, got, e, want)
		}
	})
}

func TestInverseOfAllSides(t *testing.T) {
	r := numbers()
	for _, f := range fields(t) {
		for n := 1; n <= 20; n++ {
			for range 20 {
				a := able(t, r, f, n)
				got, e := Inverse(f, a)
				if e != api.OK {
					t.Fatalf("Inverse of %v: %v", a, e)
				}
				wantMat(t, "a, and its inverse", mul(t, f, a, got), e, matrix.Identity(n))
				wantMat(t, "the inverse, and a", mul(t, f, got, a), e, matrix.Identity(n))
				if n <= 4 {
					wantMat(t, fmt.Sprint("Inverse of ", a), got, e, slowInverse(f, a))
				}
			}
			got, e := Inverse(f, matrix.Identity(n))
			wantMat(t, "Inverse of the identity", got, e, matrix.Identity(n))
		}
	}
}

// A shuffled identity has noughts in all places but one where a pivot is sought; its inverse is it, turned over.
func TestInverseOfShuffledRows(t *testing.T) {
	r := numbers()
	for _, f := range fields(t) {
		for n := 1; n <= 20; n++ {
			for range 10 {
				a, turned := filled(n, n, 0), filled(n, n, 0)
				for i, j := range r.Perm(n) {
					x := 1 + r.Intn(f.Size()-1)
					a[i][j] = x
					turned[j][i], _ = f.Inv(x)
				}
				got, e := Inverse(f, a)
				wantMat(t, fmt.Sprint("Inverse of ", a), got, e, turned)
			}
			// The only pivot is always in the last row that is left.
			back := slices.Clone(matrix.Identity(n))
			slices.Reverse(back)
			got, e := Inverse(f, back)
			wantMat(t, "Inverse of the identity from its last row on", got, e, back)
		}
	}
}

func TestInverseOfWhatHasNone(t *testing.T) {
	r := numbers()
	for _, f := range fields(t) {
		for _, a := range singulars() {
			got, e := Inverse(f, a)
			refused(t, fmt.Sprint("Inverse of ", a), got, e, api.ErrSing)
		}
		for n := 1; n <= 20; n++ {
			for rank := range n {
				a := ranked(t, r, f, n, n, rank)
				got, e := Inverse(f, a)
				refused(t, fmt.Sprintf("Inverse of %v, of the rank %d", a, rank), got, e, api.ErrSing)
			}
		}
	}
}

func TestInverseOfWhatIsNotSquare(t *testing.T) {
	for _, f := range fields(t) {
		for rows := 1; rows <= 20; rows++ {
			for cols := 1; cols <= 20; cols++ {
				if rows == cols {
					continue
				}
				// Neither what has as many pivots as can be nor what has none is another error.
				long := filled(rows, cols, 0)
				for i := range min(rows, cols) {
					long[i][i] = 1
				}
				for _, a := range []matrix.Mat{long, filled(rows, cols, 0), filled(rows, cols, 1)} {
					got, e := Inverse(f, a)
					refused(t, fmt.Sprintf("%d rows of %d", rows, cols), got, e, api.ErrArg)
					for _, n := range []int{rows, cols} {
						v, e := Solve(f, a, make([]int, n))
						refused(t, fmt.Sprintf("Solve of %d rows of %d, and %d numbers", rows, cols, n), v, e, api.ErrArg)
					}
				}
			}
		}
	}
}

func TestInverseOfWhatMayNotBe(t *testing.T) {
	for _, f := range append(fields(t), nil) {
		for _, c := range wrongs(f) {
			got, e := Inverse(f, c.a)
			refused(t, "Inverse of "+c.what, got, e, api.ErrArg)
		}
	}
	for _, a := range append(singulars(), matrix.Identity(1), matrix.Identity(2), matrix.Identity(20)) {
		got, e := Inverse(nil, a)
		refused(t, "Inverse in no field", got, e, api.ErrArg)
	}
	// What is a number hangs on the field.
	narrow, wide := gf.New(8, 0x11D), gf.New(16, 0x1100B)
	for _, n := range []int{256, 257, 65535} {
		a := matrix.Mat{{n, 1}, {1, 0}}
		got, e := Inverse(narrow, a)
		refused(t, fmt.Sprint("of 8 bits ", a), got, e, api.ErrArg)
		got, e = Inverse(wide, a)
		wantMat(t, fmt.Sprint("of 16 bits ", a), got, e, matrix.Mat{{0, 1}, {1, n}})
	}
}
