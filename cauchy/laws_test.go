package cauchy

import (
	"fmt"
	"slices"
	"testing"

	"gambrel/api"
	"gambrel/gf"
	"gambrel/invert"
	"gambrel/jvan"
	"gambrel/matrix"
	"gambrel/vander"
)

// limits goes through all numbers of columns and of rows that Safe is asked.
func limits(do func(k, m int)) {
	for k := 1; k <= 8; k++ {
		for m := 1; m <= 5; m++ {
			do(k, m)
		}
	}
}

// systemParity is the rows of vander.System behind the identity.
func systemParity(f *gf.Field, k, m int) (matrix.Mat, api.Errno) {
	whole, e := vander.System(f, k, m)
	if e != api.OK {
		return nil, e
	}
	return whole[k:], api.OK
}

func TestCodingMatricesAreSafe(t *testing.T) {
	for _, c := range []struct {
		what string
		call
	}{{"Orig", Orig}, {"Isal", Isal}, {"jvan.Parity", jvan.Parity}, {"vander.System", systemParity}} {
		for _, f := range fields(t) {
			limits(func(k, m int) {
				p, e := c.call(f, k, m)
				if e != api.OK || len(p) != m || len(p[0]) != k {
					t.Fatalf("%s of %d and %d: %v, %v", c.what, k, m, p, e)
				}
				wantSafe(t, c.what, f, p, true)
			})
		}
	}
}

func TestWhatOfTellsIsSafe(t *testing.T) {
	r := numbers()
	for _, f := range fields(t) {
		limits(func(k, m int) {
			wantSafe(t, "Of numbers by chance", f, cauchyRows(t, r, f, m, k), true)
			top := upTo(f.Size()-k-m, f.Size())
			wantSafe(t, "Of the largest numbers", f, askedOf(t, f, top[:m], top[m:]), true)
		})
	}
}

// Beyond what Safe is asked any rows of the identity, and of what Of tells, have an inverse as well: all squares cut out have.
func TestWhatOfTellsHasInversesBeyondTheLimits(t *testing.T) {
	r := numbers()
	for _, f := range fields(t) {
		for side := 1; side <= 20; side++ {
			for range 5 {
				p := cauchyRows(t, r, f, 20, 20)
				square := cut(p, r.Perm(20)[:side], r.Perm(20)[:side])
				if _, e := invert.Inverse(f, square); e != api.OK {
					t.Errorf("of %d bits %v: %v", f.Bits(), square, e)
				}
			}
		}
	}
}

// x and y turned round turn rows and columns round, and what is added to all numbers changes nothing.
func TestOfTurnedRoundAndMoved(t *testing.T) {
	r := numbers()
	for _, f := range fields(t) {
		for range 50 {
			rows, cols, by := 1+r.Intn(20), 1+r.Intn(20), r.Intn(f.Size())
			list := apart(r, f, rows+cols)
			x, y := list[:rows], list[rows:]
			p, turned := askedOf(t, f, x, y), askedOf(t, f, y, x)
			for i, row := range p {
				for j, n := range row {
					if turned[j][i] != n {
						t.Fatalf("Of %v and %v, turned round, has %d, not %d", x, y, turned[j][i], n)
					}
				}
			}
			moved := slices.Clone(list)
			for i := range moved {
				moved[i] ^= by
			}
			wantMat(t, fmt.Sprintf("Of %v and %v, and %d added", x, y, by), askedOf(t, f, moved[:rows], moved[rows:]), api.OK, p)
		}
	}
}

// What is handed in stays as it is, with the room behind it, even where x and y lie in one piece of memory.
func TestNumbersHandedInStay(t *testing.T) {
	r := numbers()
	for _, f := range fields(t) {
		for _, sides := range [][2]int{{1, 1}, {2, 3}, {1, 20}, {20, 1}, {20, 20}, {21, 1}, {1, 21}, {0, 1}, {1, 0}} {
			rows, both := sides[0], sides[0]+sides[1]
			list := apart(r, f, both+10)
			twice := slices.Clone(list)
			twice[both-1] = twice[0]
			wrong := slices.Clone(list)
			wrong[0] = -1
			for _, handed := range [][]int{list, twice, wrong} {
				before := slices.Clone(handed)
				Of(f, handed[:rows], handed[rows:both])
				Of(nil, handed[:rows], handed[rows:both])
				Of(f, handed[rows:both], handed[:rows])
				if !slices.Equal(handed, before) {
					t.Errorf("Of changed %v to %v", before, handed)
				}
			}
		}
	}
}

func TestMatrixHandedInStays(t *testing.T) {
	r := numbers()
	for _, f := range fields(t) {
		for _, sides := range [][2]int{{1, 1}, {2, 2}, {5, 8}, {5, 1}, {1, 8}, {6, 8}, {5, 9}, {21, 21}} {
			rows, cols := sides[0], sides[1]
			for _, all := range []matrix.Mat{chance(r, rows+3, cols+3, f.Size()), filled(rows+3, cols+3, 0), filled(rows+3, cols+3, -1)} {
				before := cut(all, upTo(0, rows+3), upTo(0, cols+3))
				p := slices.Clone(all)
				for i, row := range p {
					p[i] = row[:cols]
				}
				Safe(f, p[:rows])
				Safe(nil, p[:rows])
				if !same(all, before) {
					t.Errorf("Safe changed %v to %v", before, all)
				}
				for i, row := range p {
					if len(row) != cols || &row[0] != &all[i][0] {
						t.Fatalf("Safe laid the row %d elsewhere", i)
					}
				}
			}
		}
	}
}

// writeOver writes over all that was told, with the room behind it, and holds that each row has memory of its own.
func writeOver(t *testing.T, got matrix.Mat) {
	t.Helper()
	for i, row := range got {
		var others matrix.Mat
		for _, other := range got[i+1:] {
			others = append(others, slices.Clone(other[:cap(other)]))
		}
		for j := range row[:cap(row)] {
			row[:cap(row)][j] = -1
		}
		for n, other := range got[i+1:] {
			if !slices.Equal(other[:cap(other)], others[n]) {
				t.Fatalf("rows share memory")
			}
		}
	}
	for i := range got[:cap(got)] {
		got[:cap(got)][i] = []int{-1}
	}
}

// One call's answer is not another's, nor what was handed in, nor what another call makes use of.
func TestAnswersAreMadeAnew(t *testing.T) {
	for _, kind := range kinds() {
		f := made(t, kind)
		for _, pair := range [][2]int{{1, 1}, {2, 1}, {1, 2}, {2, 2}, {3, 2}, {8, 5}, {1, 19}, {19, 1}, {10, 10}} {
			k, m := pair[0], pair[1]
			all := upTo(0, k+m)
			x, y := all[k:], all[:k]
			ask := func() []matrix.Mat {
				orig, _ := Orig(f, k, m)
				isal, _ := Isal(f, k, m)
				return []matrix.Mat{orig, isal, askedOf(t, f, x, y)}
			}
			hold := func(told []matrix.Mat) {
				t.Helper()
				holdOf(t, kind, upTo(0, m), upTo(m, m+k), told[0], api.OK)
				holdOf(t, kind, upTo(k, k+m), upTo(0, k), told[1], api.OK)
				holdOf(t, kind, upTo(k, k+m), upTo(0, k), told[2], api.OK)
			}
			first, second := ask(), ask()
			for _, told := range first {
				writeOver(t, told)
			}
			if !slices.Equal(all, upTo(0, k+m)) {
				t.Fatalf("what Of told is what was handed in: %v", all)
			}
			hold(second)
			hold(ask())
			// And the other way round: what was handed in may be changed without what was told.
			for i := range all {
				all[i] = -1
			}
			hold(second)
		}
	}
}

// What is told hangs on no call before, not even on one of another field, or on one that was refused.
func TestFieldsAreKeptApart(t *testing.T) {
	for range 2 {
		for _, kind := range kinds() {
			f := made(t, kind)
			got, e := Orig(f, 12, 8)
			holdOf(t, kind, upTo(0, 8), upTo(8, 20), got, e)
			got, e = Isal(f, 12, 8)
			holdOf(t, kind, upTo(12, 20), upTo(0, 12), got, e)
			wantSafe(t, "again", f, matrix.Mat{{1, 1}, {1, 2}}, true)
			wantSafe(t, "again", f, matrix.Mat{{1, 1}, {2, 2}}, false)
			Orig(f, 12, 9)
			Isal(nil, 12, 8)
			Of(f, []int{1, 2}, []int{2})
			Safe(f, make(matrix.Mat, 6))
		}
	}
	// The product of 142 and 2 is 1 by 0x11D, so that the second row is twice the first one; by 0x12B it is not.
	p := matrix.Mat{{1, 142}, {2, 1}}
	wantSafe(t, "by 0x11D", gf.New(8, 0x11D), p, false)
	wantSafe(t, "by 0x12B", gf.New(8, 0x12B), p, true)
}
