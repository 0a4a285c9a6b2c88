package matrix

import (
	"math"
	"slices"
	"testing"

	"gambrel/api"
	"gambrel/gf"
)

// mul, pick, join and apply are the calls where nothing may be refused.
func mul(t *testing.T, f *gf.Field, a, b Mat) Mat {
	t.Helper()
	got, e := Mul(f, a, b)
	if e != api.OK {
		t.Fatalf("Mul of %v and %v: %v", a, b, e)
	}
	return got
}

func pick(t *testing.T, f *gf.Field, a Mat, rows ...int) Mat {
	t.Helper()
	got, e := Pick(f, a, rows)
	if e != api.OK {
		t.Fatalf("Pick of %v and %v: %v", a, rows, e)
	}
	return got
}

func join(t *testing.T, f *gf.Field, a, b Mat) Mat {
	t.Helper()
	got, e := Join(f, a, b)
	if e != api.OK {
		t.Fatalf("Join of %v and %v: %v", a, b, e)
	}
	return got
}

func apply(t *testing.T, f *gf.Field, a Mat, v []int) []int {
	t.Helper()
	got, e := Apply(f, a, v)
	if e != api.OK {
		t.Fatalf("Apply of %v and %v: %v", a, v, e)
	}
	return got
}

func TestProductsDoNotHangOnWhichTwoAreFirst(t *testing.T) {
	r := numbers()
	side := func() int { return 1 + r.Intn(20) }
	for _, f := range fields(t) {
		for range 60 {
			k, l, m, n := side(), side(), side(), side()
			a, b, c := some(r, f, k, l), some(r, f, l, m), some(r, f, m, n)
			if !same(mul(t, f, mul(t, f, a, b), c), mul(t, f, a, mul(t, f, b, c))) {
				t.Fatalf("%v, %v, %v", a, b, c)
			}
			v := someNumbers(r, f, m)
			if !slices.Equal(apply(t, f, mul(t, f, a, b), v), apply(t, f, a, apply(t, f, b, v))) {
				t.Fatalf("%v, %v and the column %v", a, b, v)
			}
		}
	}
}

func TestTheIdentityChangesNothing(t *testing.T) {
	r := numbers()
	for _, f := range fields(t) {
		for rows := 1; rows <= 20; rows++ {
			for cols := 1; cols <= 20; cols++ {
				a := some(r, f, rows, cols)
				if !same(mul(t, f, Identity(rows), a), a) || !same(mul(t, f, a, Identity(cols)), a) {
					t.Fatalf("the identity and %v", a)
				}
			}
			v := someNumbers(r, f, rows)
			if !slices.Equal(apply(t, f, Identity(rows), v), v) {
				t.Fatalf("the identity and the column %v", v)
			}
		}
	}
}

func TestRowsPickedOfAProduct(t *testing.T) {
	r := numbers()
	side := func() int { return 1 + r.Intn(20) }
	for _, f := range fields(t) {
		for range 100 {
			l, m, n := side(), side(), side()
			a, b := some(r, f, l, m), some(r, f, m, n)
			rows := make([]int, side())
			for i := range rows {
				rows[i] = r.Intn(l)
			}
			if !same(pick(t, f, mul(t, f, a, b), rows...), mul(t, f, pick(t, f, a, rows...), b)) {
				t.Fatalf("%v of %v, times %v", rows, a, b)
			}
			// Rows are picked by the identity's rows, too.
			if !same(mul(t, f, pick(t, f, Identity(l), rows...), a), pick(t, f, a, rows...)) {
				t.Fatalf("%v of %v", rows, a)
			}
		}
	}
}

func TestRowsJoinedOfProducts(t *testing.T) {
	r := numbers()
	for _, f := range fields(t) {
		for range 60 {
			m, n := 1+r.Intn(10), 1+r.Intn(10)
			a, b := some(r, f, m, 5), some(r, f, n, 5)
			c := some(r, f, 5, 1+r.Intn(20))
			if !same(mul(t, f, join(t, f, a, b), c), join(t, f, mul(t, f, a, c), mul(t, f, b, c))) {
				t.Fatalf("%v behind %v, times %v", b, a, c)
			}
		}
	}
}

// roomy is a matrix whose rows, and itself, have room behind them, into which nothing may be written.
func roomy(rows ...[]int) (Mat, Mat) {
	all := make(Mat, len(rows), len(rows)+2)
	for i, row := range rows {
		all[i] = append(slices.Clone(row), 55, 66)[:len(row)]
	}
	return all, append(all, []int{77}, []int{88})
}

// whole are the rows with the room behind them, as they are now.
func whole(a Mat) Mat {
	rows := make(Mat, len(a))
	for i, row := range a {
		rows[i] = slices.Clone(row[:cap(row)])
	}
	return rows
}

// What is handed in stays as it is, and what is told is another memory, each of its rows too.
func TestNothingIsChangedOrShared(t *testing.T) {
	for _, f := range fields(t) {
		a, roomOfA := roomy([]int{1, 2}, []int{3, 4})
		b, roomOfB := roomy([]int{5, 6}, []int{7, 8})
		v, rows := append([]int{9, 10}, 55)[:2], append([]int{1, 0, 1}, 55)[:3]
		wasA, wasB, wasV, wasRows := whole(roomOfA), whole(roomOfB), slices.Clone(v[:3]), slices.Clone(rows[:4])
		places := []*int{&a[0][0], &a[1][0], &b[0][0], &b[1][0]}
		kept := func(what string) {
			t.Helper()
			if !same(whole(roomOfA), wasA) || !same(whole(roomOfB), wasB) || !slices.Equal(v[:3], wasV) || !slices.Equal(rows[:4], wasRows) {
				t.Fatalf("%s: %v, %v, %v, %v", what, whole(roomOfA), whole(roomOfB), v[:3], rows[:4])
			}
			if !slices.Equal(places, []*int{&a[0][0], &a[1][0], &b[0][0], &b[1][0]}) {
				t.Fatalf("%s: rows are others", what)
			}
		}
		spoil := func(what string, got Mat) {
			t.Helper()
			kept(what)
			for i := range got {
				others := whole(slices.Delete(slices.Clone(got), i, i+1))
				for j := range got[i][:cap(got[i])] {
					got[i][:cap(got[i])][j] = -1
				}
				if !same(whole(slices.Delete(slices.Clone(got), i, i+1)), others) {
					t.Fatalf("%s: rows share memory", what)
				}
			}
			kept(what + ", its rows spoilt")
			all := got[:cap(got)]
			for i := range all {
				all[i] = []int{-1}
			}
			kept(what + ", spoilt")
		}
		May(f, a)
		kept("May")
		spoil("Identity", Identity(3))
		spoil("Pick", pick(t, f, a, 0, 1))
		spoil("Pick of a row twice", pick(t, f, a, rows...))
		spoil("Pick of a row alone", pick(t, f, a, 1))
		spoil("Join", join(t, f, a, b))
		spoil("Join with itself", join(t, f, a, a))
		spoil("Mul", mul(t, f, a, b))
		spoil("Mul with itself", mul(t, f, a, a))
		spoil("Mul by the identity", mul(t, f, a, Identity(2)))
		spoil("Mul of the identity", mul(t, f, Identity(2), b))
		spoil("Apply", Mat{apply(t, f, a, v)})
		spoil("Apply of the identity", Mat{apply(t, f, Identity(2), v)})
		spoil("Apply to a row of its own", Mat{apply(t, f, a, a[0])})
	}
}

// One call's identity is not another's.
func TestIdentityIsMadeAnew(t *testing.T) {
	Identity(4)[2][1] = 9
	if a := Identity(4); !same(a, Mat{{1, 0, 0, 0}, {0, 1, 0, 0}, {0, 0, 1, 0}, {0, 0, 0, 1}}) {
		t.Errorf("Identity(4): %v", a)
	}
}

// Rows of a matrix that is handed in may be one and the same, and so may be both matrices.
func TestOneRowHandedInTwice(t *testing.T) {
	f := gf.New(8, 0x11D)
	row := []int{2, 3}
	a := Mat{row, row}
	if !May(f, a) {
		t.Error("a row that stands twice may not be")
	}
	got, e := Mul(f, a, a)
	wantMat(t, "Mul", got, e, slowMul(f, Mat{{2, 3}, {2, 3}}, Mat{{2, 3}, {2, 3}}))
	got, e = Join(f, a, a[:1])
	wantMat(t, "Join", got, e, Mat{{2, 3}, {2, 3}, {2, 3}})
	if v, e := Apply(f, a, row); e != api.OK || !slices.Equal(v, []int{1, 1}) {
		t.Errorf("Apply: %v, %v", v, e)
	}
}

// What ranges over columns may stop, and gets each column as its own.
func TestColumns(t *testing.T) {
	a := Mat{{1, 2, 3}, {4, 5, 6}}
	var got Mat
	for column := range columns(a) {
		got = append(got, column)
	}
	wantMat(t, "columns", got, api.OK, Mat{{1, 4}, {2, 5}, {3, 6}})
	for column := range columns(a) {
		if !slices.Equal(column, []int{1, 4}) {
			t.Errorf("the first column: %v", column)
		}
		break
	}
}

// Every call ends and none panics, at all arguments.
func TestEdgesEnd(t *testing.T) {
	edges := []int{math.MinInt, math.MinInt32, -65536, -256, -1, 0, 1, 20, 21, 255, 256, 65535, 65536, 1 << 31, 1 << 32, math.MaxInt}
	lists := [][]int{nil, {}, {0}, {1, 2}, edges, make([]int, 20), make([]int, 21), make([]int, 1<<16)}
	mats := []Mat{nil, {}, {nil}, {{}}, {{1}}, {{1, 2}, {3, 4}}, {edges}, {nil, {1}}, {{1}, nil}, Mat(lists), filled(20, 20, 1), filled(21, 21, 1), make(Mat, 1<<16)}
	for _, n := range edges {
		Identity(n)
	}
	for _, f := range []*gf.Field{nil, gf.New(8, 0x11D), gf.New(16, 0x1100B)} {
		for _, a := range mats {
			May(f, a)
			for _, l := range lists {
				Pick(f, a, l)
				Apply(f, a, l)
			}
			for _, b := range mats {
				Join(f, a, b)
				Mul(f, a, b)
			}
		}
	}
}
