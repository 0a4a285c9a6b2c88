package invert

import (
	"math"
	"slices"
	"testing"

	"gambrel/api"
	"gambrel/gf"
	"gambrel/matrix"
)

// inverse is the call where nothing may be refused.
func inverse(t *testing.T, f *gf.Field, a matrix.Mat) matrix.Mat {
	t.Helper()
	got, e := Inverse(f, a)
	if e != api.OK {
		t.Fatalf("Inverse of %v: %v", a, e)
	}
	return got
}

func TestAnInversesInverseIsTheMatrix(t *testing.T) {
	r := numbers()
	for _, f := range fields(t) {
		for n := 1; n <= 20; n++ {
			for range 10 {
				a := able(t, r, f, n)
				if !same(inverse(t, f, inverse(t, f, a)), a) {
					t.Fatalf("the inverse's inverse of %v", a)
				}
			}
		}
	}
}

func TestTheInverseOfAProduct(t *testing.T) {
	r := numbers()
	for _, f := range fields(t) {
		for n := 1; n <= 20; n++ {
			for range 10 {
				a, b := able(t, r, f, n), able(t, r, f, n)
				if !same(inverse(t, f, mul(t, f, a, b)), mul(t, f, inverse(t, f, b), inverse(t, f, a))) {
					t.Fatalf("the product of %v and %v", a, b)
				}
			}
		}
	}
}

// holdInverseAndRank holds that there is an inverse just if the rank is how many rows there are; so it is of what is solved.
func holdInverseAndRank(t *testing.T, f *gf.Field, a matrix.Mat) {
	t.Helper()
	rank, e := Rank(f, a)
	if e != api.OK {
		t.Fatalf("Rank of %v: %v", a, e)
	}
	want := api.OK
	if rank != len(a) {
		want = api.ErrSing
	}
	if _, e := Inverse(f, a); e != want {
		t.Errorf("the rank of %v is %d, and Inverse tells %v", a, rank, e)
	}
	if _, e := Solve(f, a, make([]int, len(a))); e != want {
		t.Errorf("the rank of %v is %d, and Solve tells %v", a, rank, e)
	}
}

func TestAnInverseAndTheRank(t *testing.T) {
	r := numbers()
	for _, f := range fields(t) {
		for n := 1; n <= 20; n++ {
			for rank := range n + 1 {
				holdInverseAndRank(t, f, ranked(t, r, f, n, n, rank))
				holdInverseAndRank(t, f, staircase(r, f, n, n, rank))
			}
		}
		for _, a := range singulars() {
			holdInverseAndRank(t, f, a)
		}
	}
	f := gf.New(8, 0x11D)
	every(3, []int{0, 1, 2}, func(a matrix.Mat) { holdInverseAndRank(t, f, a) })
}

// roomy is a matrix whose rows have room behind them, into which nothing may be written.
func roomy(a matrix.Mat) matrix.Mat {
	rows := make(matrix.Mat, len(a), len(a)+2)
	for i, row := range a {
		rows[i] = append(slices.Clone(row), 55, 66)[:len(row)]
	}
	return rows
}

// whole are the rows with the room behind them, as they are now.
func whole(a matrix.Mat) matrix.Mat {
	rows := make(matrix.Mat, len(a))
	for i, row := range a {
		rows[i] = slices.Clone(row[:cap(row)])
	}
	return rows
}

// places are where the rows stand.
func places(a matrix.Mat) []*int {
	var list []*int
	for _, row := range a {
		list = append(list, &row[0])
	}
	return list
}

// spoil writes over all that was told, and holds that each row has memory of its own.
func spoil(t *testing.T, got matrix.Mat) {
	t.Helper()
	for i, row := range got {
		others := whole(slices.Delete(slices.Clone(got), i, i+1))
		for j := range row[:cap(row)] {
			row[:cap(row)][j] = -1
		}
		if !same(whole(slices.Delete(slices.Clone(got), i, i+1)), others) {
			t.Fatalf("rows share memory")
		}
	}
	for i := range got[:cap(got)] {
		got[:cap(got)][i] = []int{-1}
	}
}

// What is handed in stays as it is, with an error or without one, and what is told is another memory, each of its rows too.
func TestNothingIsChangedOrShared(t *testing.T) {
	r := numbers()
	for _, f := range fields(t) {
		list := []matrix.Mat{
			{{5}}, {{0, 1}, {1, 0}}, {{0, 1, 2}, {1, 0, 3}, {4, 5, 0}}, {{1, 2}, {2, 4}}, {{0, 0}, {0, 0}}, {{0, 1, 2}, {1, 0, 3}}, {{0, 1}, {1, 0}, {2, 3}},
			matrix.Identity(1), matrix.Identity(20), able(t, r, f, 20), ranked(t, r, f, 20, 20, 19), {{1, f.Size()}, {0, -1}},
		}
		for _, plain := range list {
			a := roomy(plain)
			v := append(someNumbers(r, f, len(a)), 77)[:len(a)]
			was, stood, wasV := whole(a), places(a), slices.Clone(v[:len(a)+1])
			kept := func(what string) {
				t.Helper()
				if !same(whole(a), was) || !slices.Equal(places(a), stood) || !slices.Equal(v[:len(a)+1], wasV) {
					t.Fatalf("%s of %v: %v, %v", what, plain, whole(a), v[:len(a)+1])
				}
			}
			Rank(f, a)
			kept("Rank")
			got, _ := Inverse(f, a)
			kept("Inverse")
			spoil(t, got)
			kept("Inverse, spoilt,")
			x, _ := Solve(f, a, v)
			kept("Solve")
			spoil(t, matrix.Mat{x})
			kept("Solve, spoilt,")
			x, _ = Solve(f, a, a[0])
			kept("Solve with a row of its own")
			spoil(t, matrix.Mat{x})
			kept("Solve with a row of its own, spoilt,")
		}
	}
}

// One call's answer is not another's.
func TestAnswersAreMadeAnew(t *testing.T) {
	f := gf.New(8, 0x11D)
	a := matrix.Mat{{1, 1}, {1, 2}}
	spoil(t, inverse(t, f, a))
	got, e := Inverse(f, a)
	wantMat(t, "Inverse again", got, e, matrix.Mat{{245, 244}, {244, 244}})
}

// Rows of a matrix that is handed in may be one and the same memory, and so may be the column.
func TestOneRowHandedInTwice(t *testing.T) {
	f := gf.New(8, 0x11D)
	row := []int{2, 3}
	got, e := Inverse(f, matrix.Mat{row, row})
	refused(t, "Inverse of a row that stands twice", got, e, api.ErrSing)
	wantRank(t, f, matrix.Mat{row, row, {0, 1}}, 2)
	shared := []int{1, 0, 1}
	if x, e := Solve(f, matrix.Mat{shared[:2], shared[1:]}, shared[:2]); e != api.OK || !slices.Equal(x, []int{1, 0}) {
		t.Errorf("Solve of rows that share memory: %v, %v", x, e)
	}
}

// Every call ends and none panics, at all arguments.
func TestEdgesEnd(t *testing.T) {
	edges := []int{math.MinInt, math.MinInt32, -65536, -256, -1, 0, 1, 20, 21, 255, 256, 65535, 65536, 1 << 31, 1 << 32, math.MaxInt}
	lists := [][]int{nil, {}, {0}, {1, 2}, edges, make([]int, 20), make([]int, 21), make([]int, 1<<16)}
	mats := []matrix.Mat{
		nil, {}, {nil}, {{}}, {{0}}, {{1}}, {{1, 2}, {3, 4}}, {edges}, {nil, {1}}, {{1}, nil}, matrix.Mat(lists),
		filled(1, 20, 1), filled(20, 1, 1), filled(20, 20, 0), filled(20, 20, 1), filled(20, 20, 255), filled(21, 21, 1), make(matrix.Mat, 1<<16),
	}
	for _, f := range []*gf.Field{nil, gf.New(8, 0x11D), gf.New(16, 0x1100B)} {
		for _, a := range mats {
			Inverse(f, a)
			Rank(f, a)
			for _, v := range lists {
				Solve(f, a, v)
			}
		}
	}
}
