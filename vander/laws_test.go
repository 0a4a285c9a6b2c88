package vander

import (
	"fmt"
	"math/rand"
	"slices"
	"testing"

	"gambrel/api"
	"gambrel/gf"
	"gambrel/invert"
	"gambrel/matrix"
)

// numbers are a source of test inputs that is the same in each run.
func numbers() *rand.Rand { return rand.New(rand.NewSource(6)) }

// choices goes through all lists of count of the numbers from 0 to below n, each rising.
func choices(n, count int, do func(chosen []int)) {
	var choose func(chosen []int, from int)
	choose = func(chosen []int, from int) {
		if len(chosen) == count {
			do(chosen)
			return
		}
		for i := from; i <= n-(count-len(chosen)); i++ {
			choose(append(chosen, i), i+1)
		}
	}
	choose(make([]int, 0, count), 0)
}

// holdChoice holds that these rows of a have an inverse.
func holdChoice(t *testing.T, what string, f *gf.Field, a matrix.Mat, rows []int) {
	t.Helper()
	picked, e := matrix.Pick(f, a, rows)
	if e != api.OK {
		t.Fatalf("%s: Pick of %v: %v", what, rows, e)
	}
	if _, e := invert.Inverse(f, picked); e != api.OK {
		t.Errorf("%s: the rows %v have no inverse: %v", what, rows, e)
	}
}

// holdAnyRows holds that any k rows of a, which has k columns, have an inverse.
func holdAnyRows(t *testing.T, what string, f *gf.Field, a matrix.Mat) {
	t.Helper()
	choices(len(a), len(a[0]), func(rows []int) { holdChoice(t, what, f, a, rows) })
}

// behindIdentity is the identity, and Isal's rows behind it.
func behindIdentity(t *testing.T, f *gf.Field, k, m int) matrix.Mat {
	t.Helper()
	whole, e := matrix.Join(f, matrix.Identity(k), asked(t, Isal, f, k, m))
	if e != api.OK {
		t.Fatalf("Join of %d and %d: %v", k, m, e)
	}
	return whole
}

func TestSystemBeginsWithTheIdentity(t *testing.T) {
	for _, f := range fields(t) {
		for k := 1; k <= 19; k++ {
			for m := 1; k+m <= 20; m++ {
				a := asked(t, System, f, k, m)
				if !matrix.May(f, a) || len(a) != k+m {
					t.Fatalf("System of %d bits, %d and %d: %v", f.Bits(), k, m, a)
				}
				wantMat(t, "the first rows", a[:k], api.OK, matrix.Identity(k))
			}
		}
	}
}

// What System tells, times Raw's first rows, is Raw: that is what the product with their inverse means.
func TestSystemIsRawByItsFirstRows(t *testing.T) {
	for _, f := range fields(t) {
		for k := 1; k <= 19; k++ {
			for m := 1; k+m <= 20; m++ {
				raw := asked(t, Raw, f, k+m, k)
				got, e := matrix.Mul(f, asked(t, System, f, k, m), raw[:k])
				wantMat(t, fmt.Sprintf("System of %d bits, %d and %d, times Raw's first rows", f.Bits(), k, m), got, e, raw)
			}
		}
	}
}

func TestAnyRowsOfSystemHaveAnInverse(t *testing.T) {
	for _, f := range fields(t) {
		for k := 1; k <= 19; k++ {
			for m := 1; k+m <= 20; m++ {
				// All choices, where they are few.
				if k+m <= 10 || m <= 2 || k <= 2 {
					what := fmt.Sprintf("System of %d bits, %d and %d", f.Bits(), k, m)
					holdAnyRows(t, what, f, asked(t, System, f, k, m))
				}
			}
		}
	}
}

func TestRowsByChanceOfSystemHaveAnInverse(t *testing.T) {
	r := numbers()
	for _, f := range fields(t) {
		for k := 1; k <= 19; k++ {
			for m := 1; k+m <= 20; m++ {
				a := asked(t, System, f, k, m)
				what := fmt.Sprintf("System of %d bits, %d and %d", f.Bits(), k, m)
				for range 20 {
					holdChoice(t, what, f, a, r.Perm(k + m)[:k])
				}
				// The last ones have no row of the identity, if they can.
				last := make([]int, k)
				for i := range last {
					last[i] = m + i
				}
				holdChoice(t, what, f, a, last)
			}
		}
	}
}

func TestAnyRowsOfTheIdentityAndIsalHaveAnInverse(t *testing.T) {
	for _, f := range fields(t) {
		for k := 1; k <= 16; k++ {
			for m := 1; m <= 3; m++ {
				what := fmt.Sprintf("the identity, and Isal of %d bits, %d and %d", f.Bits(), k, m)
				holdAnyRows(t, what, f, behindIdentity(t, f, k, m))
			}
		}
	}
}

// With another parity row those above stay as they are.
func TestMoreRowsChangeNoOthers(t *testing.T) {
	for _, f := range fields(t) {
		for k := 1; k <= 18; k++ {
			for m := 1; k+m < 20; m++ {
				for what, c := range map[string]call{"System": System, "Isal": Isal} {
					fewer, more := asked(t, c, f, k, m), asked(t, c, f, k, m+1)
					wantMat(t, what, more[:len(fewer)], api.OK, fewer)
				}
			}
		}
	}
}

// spoil writes over all that was told, with the room behind it, and holds that each row has memory of its own.
func spoil(t *testing.T, got matrix.Mat) {
	t.Helper()
	for i, row := range got {
		var others matrix.Mat
		for _, other := range got[i+1:] {
			others = append(others, slices.Clone(other[:cap(other)]))
		}
		for j := range row[:cap(row)] {
			row[:cap(row)][j] = -1
		}
		for n, other := range got[i+1:] {
			if !slices.Equal(other[:cap(other)], others[n]) {
				t.Fatalf("rows share memory")
			}
		}
	}
	for i := range got[:cap(got)] {
		got[:cap(got)][i] = []int{-1}
	}
}

// One call's answer is not another's, nor is it what another call makes use of.
func TestAnswersAreMadeAnew(t *testing.T) {
	for _, f := range fields(t) {
		for _, pair := range [][2]int{{1, 1}, {2, 2}, {3, 2}, {1, 19}, {19, 1}, {10, 10}} {
			k, m := pair[0], pair[1]
			hold := func(raw, system, isal matrix.Mat) {
				t.Helper()
				wantMat(t, "Raw again", raw, api.OK, slowRaw(f, k+m, k))
				wantMat(t, "System again", system, api.OK, slowSystem(f, k, m))
				wantMat(t, "Isal again", isal, api.OK, slowIsal(f, k, m))
			}
			ask := func() (matrix.Mat, matrix.Mat, matrix.Mat) {
				t.Helper()
				return asked(t, Raw, f, k+m, k), asked(t, System, f, k, m), asked(t, Isal, f, k, m)
			}
			raw, system, isal := ask()
			otherRaw, otherSystem, otherIsal := ask()
			spoil(t, raw)
			spoil(t, system)
			spoil(t, isal)
			hold(otherRaw, otherSystem, otherIsal)
			hold(ask())
		}
	}
}

// What is told hangs on no call before, not even on one of another field, or on one that was refused.
func TestFieldsAreKeptApart(t *testing.T) {
	narrow, wide := gf.New(8, 0x11D), gf.New(16, 0x1100B)
	for range 2 {
		for _, f := range []*gf.Field{narrow, wide} {
			wantMat(t, "Raw", asked(t, Raw, f, 20, 20), api.OK, slowRaw(f, 20, 20))
			wantMat(t, "System", asked(t, System, f, 12, 8), api.OK, slowSystem(f, 12, 8))
			wantMat(t, "Isal", asked(t, Isal, f, 12, 8), api.OK, slowIsal(f, 12, 8))
			Raw(f, 21, 1)
			System(nil, 12, 8)
			Isal(f, 12, 9)
		}
	}
}
