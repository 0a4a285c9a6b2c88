package invert

import (
	"fmt"
	"slices"
	"testing"

	"gambrel/api"
	"gambrel/gf"
	"gambrel/matrix"
)

// wantRank holds the rank of a against the one that is asked for.
func wantRank(t *testing.T, f *gf.Field, a matrix.Mat, want int) {
	t.Helper()
	if got, e := Rank(f, a); e != api.OK || got != want {
		t.Errorf("Rank of %v: %d, %v, not %d", a, got, e, want)
	}
}

// turned is a with its columns as rows.
func turned(a matrix.Mat) matrix.Mat {
	rows := filled(len(a[0]), len(a), 0)
	for i, row := range a {
		for j, n := range row {
			rows[j][i] = n
		}
	}
	return rows
}

func TestRankAsItIsWritten(t *testing.T) {
	for _, f := range fields(t) {
		for _, c := range []struct {
			a    matrix.Mat
			want int
		}{
			{matrix.Mat{{0}}, 0},
			{matrix.Mat{{1}}, 1},
			{matrix.Mat{{0, 0, 0}}, 0},
			{matrix.Mat{{0, 0, 3}}, 1},
			{matrix.Mat{{0}, {0}, {3}}, 1},
			{matrix.Mat{{1}, {2}, {3}}, 1},
			{matrix.Mat{{1, 1}, {1, 2}}, 2},
			{matrix.Mat{{1, 1}, {1, 1}}, 1},
			{matrix.Mat{{1, 2}, {2, 4}}, 1},
			{matrix.Mat{{0, 1}, {0, 2}}, 1},
			{matrix.Mat{{0, 1}, {0, 2}, {1, 0}}, 2},
			{matrix.Mat{{0, 0, 1}, {0, 0, 2}, {0, 0, 3}}, 1},
			{matrix.Mat{{0, 0, 1}, {0, 1, 0}}, 2},
			{matrix.Mat{{1, 0, 1}, {0, 1, 1}, {1, 1, 0}}, 2},
			{matrix.Mat{{1, 2, 3, 4}, {0, 0, 0, 0}, {1, 2, 3, 5}}, 2},
			{matrix.Mat{{1, 2, 3}, {4, 5, 6}, {5, 7, 5}, {0, 0, 7}}, 3},
		} {
			wantRank(t, f, c.a, c.want)
		}
	}
}

// isSumOfOthers tells whether there are numbers by which rows, multiplied and added, are the wanted one: it tries them all.
func isSumOfOthers(f *gf.Field, wanted []int, rows ...[]int) bool {
	if len(rows) == 0 {
		return !slices.ContainsFunc(wanted, func(n int) bool { return n != 0 })
	}
	for times := range f.Size() {
		rest := slices.Clone(wanted)
		for i, n := range rows[0] {
			rest[i] ^= f.Mul(times, n)
		}
		if isSumOfOthers(f, rest, rows[1:]...) {
			return true
		}
	}
	return false
}

// wordRank is the rank as the document's words have it: the most rows of which none is a sum of products of the others.
func wordRank(f *gf.Field, a matrix.Mat) int {
	most := 0
	for chosen := range 1 << len(a) {
		var rows matrix.Mat
		for i, row := range a {
			if chosen>>i&1 == 1 {
				rows = append(rows, row)
			}
		}
		free := true
		for i := range rows {
			free = free && !isSumOfOthers(f, rows[i], slices.Delete(slices.Clone(rows), i, i+1)...)
		}
		if free {
			most = max(most, len(rows))
		}
	}
	return most
}

func TestRankByItsWords(t *testing.T) {
	r := numbers()
	f := gf.New(8, 0x11D)
	for rows := 1; rows <= 3; rows++ {
		for cols := 1; cols <= 4; cols++ {
			for rank := range min(rows, cols) + 1 {
				a := ranked(t, r, f, rows, cols, rank)
				wantRank(t, f, a, wordRank(f, a))
			}
		}
	}
	every(2, []int{0, 1, 2, 255}, func(a matrix.Mat) { wantRank(t, f, a, wordRank(f, a)) })
	wide := gf.New(16, 0x1100B)
	for _, a := range []matrix.Mat{{{256, 512}, {0x8000, 0x100B}}, {{256, 512}, {512, 256}}, {{0, 0}, {1, 0x8000}}} {
		wantRank(t, wide, a, wordRank(wide, a))
	}
}

// minorRank is the side of the largest square that can be cut out of a and has an inverse.
func minorRank(f *gf.Field, a matrix.Mat) int {
	if len(a) == len(a[0]) && determinant(f, a) != 0 {
		return len(a)
	}
	most := 0
	if len(a) >= len(a[0]) && len(a) > 1 {
		for i := range a {
			most = max(most, minorRank(f, slices.Delete(slices.Clone(a), i, i+1)))
		}
	}
	if len(a[0]) >= len(a) && len(a[0]) > 1 {
		for j := range a[0] {
			most = max(most, minorRank(f, turned(slices.Delete(turned(a), j, j+1))))
		}
	}
	return most
}

func TestRankOfAllSmallOnes(t *testing.T) {
	f := gf.New(8, 0x11D)
	every(3, []int{0, 1, 2}, func(a matrix.Mat) {
		wantRank(t, f, a[:1], minorRank(f, a[:1]))
		wantRank(t, f, a[:2], minorRank(f, a[:2]))
		wantRank(t, f, a, minorRank(f, a))
	})
}

func TestRankOfAllSides(t *testing.T) {
	r := numbers()
	for _, f := range fields(t) {
		for rows := 1; rows <= 20; rows++ {
			for cols := 1; cols <= 20; cols++ {
				most := min(rows, cols)
				for _, rank := range []int{0, 1, most - 1, most, r.Intn(most + 1)} {
					wantRank(t, f, staircase(r, f, rows, cols, rank), rank)
					wantRank(t, f, ranked(t, r, f, rows, cols, rank), rank)
				}
				wantRank(t, f, filled(rows, cols, 0), 0)
				wantRank(t, f, filled(rows, cols, f.Size()-1), 1)
			}
		}
	}
}

// Rows that are sums of products of others add nothing, wherever they stand.
func TestRankOfRowsThatHangOnOthers(t *testing.T) {
	r := numbers()
	for _, f := range fields(t) {
		for rank := 1; rank <= 20; rank++ {
			free := able(t, r, f, 20)[:rank]
			for range 5 {
				a := slices.Clone(free)
				for len(a) < 20 {
					a = append(a, apply(t, f, turned(free), someNumbers(r, f, rank)))
				}
				r.Shuffle(len(a), func(i, j int) { a[i], a[j] = a[j], a[i] })
				wantRank(t, f, a, rank)
				wantRank(t, f, turned(a), rank)
			}
		}
	}
}

func TestRankOfWhatMayNotBe(t *testing.T) {
	for _, f := range append(fields(t), nil) {
		for _, c := range wrongs(f) {
			if got, e := Rank(f, c.a); e != api.ErrArg || got != 0 {
				t.Errorf("Rank of %s: %d, %v", c.what, got, e)
			}
		}
	}
	for _, a := range []matrix.Mat{{{0}}, {{1}}, {{1, 2}}, {{1}, {2}}, matrix.Identity(20)} {
		if got, e := Rank(nil, a); e != api.ErrArg || got != 0 {
			t.Errorf("Rank of %v in no field: %d, %v", a, got, e)
		}
	}
	narrow, wide := gf.New(8, 0x11D), gf.New(16, 0x1100B)
	a := matrix.Mat{{1, 0, 2}, {0, 256, 1}}
	if got, e := Rank(narrow, a); e != api.ErrArg || got != 0 {
		t.Errorf("of 8 bits %s: %d, %v", fmt.Sprint(a), got, e)
	}
	wantRank(t, wide, a, 2)
}
