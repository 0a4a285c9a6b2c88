package jvan

import (
	"fmt"
	"math/rand"
	"slices"
	"testing"

	"gambrel/api"
	"gambrel/gf"
	"gambrel/invert"
	"gambrel/matrix"
)

// numbers are a source of test inputs that is the same in each run.
func numbers() *rand.Rand { return rand.New(rand.NewSource(7)) }

// choices goes through all lists of count of the numbers from 0 to below n, each rising.
func choices(n, count int, do func(chosen []int)) {
	var choose func(chosen []int, from int)
	choose = func(chosen []int, from int) {
		if len(chosen) == count {
			do(chosen)
			return
		}
		for i := from; i <= n-(count-len(chosen)); i++ {
			choose(append(chosen, i), i+1)
		}
	}
	choose(make([]int, 0, count), 0)
}

// holdChoice holds that these rows of a have an inverse.
func holdChoice(t *testing.T, what string, f *gf.Field, a matrix.Mat, rows []int) {
	t.Helper()
	picked, e := matrix.Pick(f, a, rows)
	if e != api.OK {
		t.Fatalf("%s: Pick of %v: %v", what, rows, e)
	}
	if _, e := invert.Inverse(f, picked); e != api.OK {
		t.Errorf("%s: the rows %v have no inverse: %v", what, rows, e)
	}
}

// behindIdentity is the identity, and Parity's rows behind it.
func behindIdentity(t *testing.T, f *gf.Field, k, m int) matrix.Mat {
	t.Helper()
	whole, e := matrix.Join(f, matrix.Identity(k), asked(t, Parity, f, k, m))
	if e != api.OK {
		t.Fatalf("Join of %d and %d: %v", k, m, e)
	}
	return whole
}

func TestAnyRowsOfTheIdentityAndParityHaveAnInverse(t *testing.T) {
	for _, f := range fields(t) {
		sides(func(k, m int) {
			// All choices, where they are few; those of the formats' limits are.
			if k+m > 10 && m > 2 && k > 2 && (k > api.MaxK || m > api.MaxM) {
				return
			}
			what := fmt.Sprintf("the identity, and Parity of %d bits, %d and %d", f.Bits(), k, m)
			whole := behindIdentity(t, f, k, m)
			choices(k+m, k, func(rows []int) { holdChoice(t, what, f, whole, rows) })
		})
	}
}

func TestRowsByChanceOfTheIdentityAndParityHaveAnInverse(t *testing.T) {
	r := numbers()
	for _, f := range fields(t) {
		sides(func(k, m int) {
			whole := behindIdentity(t, f, k, m)
			what := fmt.Sprintf("the identity, and Parity of %d bits, %d and %d", f.Bits(), k, m)
			for range 20 {
				holdChoice(t, what, f, whole, r.Perm(k + m)[:k])
			}
			// The last ones have no row of the identity, if they can.
			last := make([]int, k)
			for i := range last {
				last[i] = m + i
			}
			holdChoice(t, what, f, whole, last)
		})
	}
}

// Parity's law rests on this one: what is multiplied and divided behind it takes no inverse away.
func TestRowsByChanceOfExtendedHaveAnInverse(t *testing.T) {
	r := numbers()
	for _, f := range fields(t) {
		sides(func(k, m int) {
			a := asked(t, Extended, f, k, m)
			what := fmt.Sprintf("Extended of %d bits, %d and %d", f.Bits(), k, m)
			for range 20 {
				holdChoice(t, what, f, a, r.Perm(k + m)[:k])
			}
		})
	}
}

// Parity of one row adds up all numbers, which is exclusive or; so does the first row of any.
func TestParityOfOneRowIsExclusiveOr(t *testing.T) {
	r := numbers()
	for _, f := range fields(t) {
		sides(func(k, m int) {
			data, sum := make([]int, k), 0
			for j := range data {
				data[j] = r.Intn(f.Size())
				sum ^= data[j]
			}
			got, e := matrix.Apply(f, asked(t, Parity, f, k, m), data)
			if e != api.OK || len(got) != m || got[0] != sum {
				t.Errorf("Parity of %d bits, %d and %d, of %v: %v, %v, not %d first", f.Bits(), k, m, data, got, e, sum)
			}
		})
	}
}

func TestParityHasOnesAndNoNoughts(t *testing.T) {
	for _, f := range fields(t) {
		sides(func(k, m int) {
			a := asked(t, Parity, f, k, m)
			if !matrix.May(f, a) || len(a) != m || len(a[0]) != k {
				t.Fatalf("Parity of %d bits, %d and %d: %v", f.Bits(), k, m, a)
			}
			for i, row := range a {
				for j, n := range row {
					if n == 0 || (i == 0 || j == 0) && n != 1 {
						t.Errorf("Parity of %d bits, %d and %d has %d in the row %d and the column %d", f.Bits(), k, m, n, i, j)
					}
				}
			}
		})
	}
}

// Another parity row comes ahead of the last one, and the others stay as they are;
// but for an only row, which is both the first one and the last one.
func TestAnotherRowComesAheadOfTheLast(t *testing.T) {
	for _, f := range fields(t) {
		sides(func(k, m int) {
			if m < 2 || k+m == 20 {
				return
			}
			fewer, more := asked(t, Parity, f, k, m), asked(t, Parity, f, k, m+1)
			what := fmt.Sprintf("Parity of %d bits, %d and %d without the last but one", f.Bits(), k, m+1)
			wantMat(t, what, slices.Delete(more, m-1, m), api.OK, fewer)
		})
	}
}

// spoil writes over all that was told, with the room behind it, and holds that each row has memory of its own.
func spoil(t *testing.T, got matrix.Mat) {
	t.Helper()
	for i, row := range got {
		var others matrix.Mat
		for _, other := range got[i+1:] {
			others = append(others, slices.Clone(other[:cap(other)]))
		}
		for j := range row[:cap(row)] {
			row[:cap(row)][j] = -1
		}
		for n, other := range got[i+1:] {
			if !slices.Equal(other[:cap(other)], others[n]) {
				t.Fatalf("rows share memory")
			}
		}
	}
	for i := range got[:cap(got)] {
		got[:cap(got)][i] = []int{-1}
	}
}

// One call's answer is not another's, nor is it what another call makes use of.
func TestAnswersAreMadeAnew(t *testing.T) {
	for _, f := range fields(t) {
		for _, pair := range [][2]int{{1, 1}, {2, 1}, {1, 2}, {2, 2}, {3, 2}, {1, 19}, {19, 1}, {10, 10}} {
			k, m := pair[0], pair[1]
			hold := func(extended, parity matrix.Mat) {
				t.Helper()
				wantMat(t, "Extended again", extended, api.OK, slowExtended(f, k, m))
				wantMat(t, "Parity again", parity, api.OK, slowParity(f, k, m))
			}
			ask := func() (matrix.Mat, matrix.Mat) {
				t.Helper()
				return asked(t, Extended, f, k, m), asked(t, Parity, f, k, m)
			}
			extended, parity := ask()
			otherExtended, otherParity := ask()
			spoil(t, extended)
			spoil(t, parity)
			hold(otherExtended, otherParity)
			hold(ask())
		}
	}
}

// What is told hangs on no call before, not even on one of another field, or on one that was refused.
func TestFieldsAreKeptApart(t *testing.T) {
	narrow, wide := gf.New(8, 0x11D), gf.New(16, 0x1100B)
	for range 2 {
		for _, f := range []*gf.Field{narrow, wide} {
			wantMat(t, "Extended", asked(t, Extended, f, 12, 8), api.OK, slowExtended(f, 12, 8))
			wantMat(t, "Parity", asked(t, Parity, f, 12, 8), api.OK, slowParity(f, 12, 8))
			Extended(f, 12, 9)
			Parity(nil, 12, 8)
			Parity(f, 0, 8)
		}
	}
}
