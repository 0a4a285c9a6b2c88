package invert

import (
	"fmt"
	"slices"
	"testing"

	"gambrel/api"
	"gambrel/gf"
	"gambrel/matrix"
)

// wantRow holds what a call told against the numbers that are asked for.
func wantRow(t *testing.T, what string, got []int, e api.Errno, want []int) {
	t.Helper()
	if e != api.OK || !slices.Equal(got, want) {
		t.Errorf("%s: %v, %v, not %v", what, got, e, want)
	}
}

func TestSolveAsItIsWritten(t *testing.T) {
	narrow, wide := gf.New(8, 0x11D), gf.New(16, 0x1100B)
	for _, c := range []struct {
		f       *gf.Field
		a       matrix.Mat
		v, want []int
	}{
		{narrow, matrix.Mat{{1}}, []int{7}, []int{7}},
		{narrow, matrix.Mat{{2}}, []int{29}, []int{128}},
		{wide, matrix.Mat{{2}}, []int{0x100B}, []int{0x8000}},
		{narrow, matrix.Mat{{0, 1}, {1, 0}}, []int{5, 6}, []int{6, 5}},
		{narrow, matrix.Mat{{0, 1, 0}, {0, 0, 1}, {1, 0, 0}}, []int{5, 6, 7}, []int{7, 5, 6}},
		{narrow, matrix.Mat{{1, 1}, {1, 2}}, []int{3, 5}, []int{1, 2}},
		{narrow, matrix.Mat{{1, 1}, {1, 2}}, []int{0, 0}, []int{0, 0}},
	} {
		got, e := Solve(c.f, c.a, c.v)
		wantRow(t, fmt.Sprintf("Solve of %v and %v", c.a, c.v), got, e, c.want)
	}
}

func TestSolveOfAllSides(t *testing.T) {
	r := numbers()
	for _, f := range fields(t) {
		for n := 1; n <= 20; n++ {
			for range 20 {
				a, x := able(t, r, f, n), someNumbers(r, f, n)
				got, e := Solve(f, a, apply(t, f, a, x))
				wantRow(t, fmt.Sprintf("Solve of %v", a), got, e, x)
				v := someNumbers(r, f, n)
				got, e = Solve(f, a, v)
				wantRow(t, "Apply of what is solved", apply(t, f, a, got), e, v)
			}
			edge := slices.Repeat([]int{f.Size() - 1}, n)
			got, e := Solve(f, matrix.Identity(n), edge)
			wantRow(t, "Solve of the identity", got, e, edge)
			got, e = Solve(f, able(t, r, f, n), make([]int, n))
			wantRow(t, "Solve of noughts", got, e, make([]int, n))
		}
	}
}

func TestSolveIsByTheInverse(t *testing.T) {
	r := numbers()
	for _, f := range fields(t) {
		every(2, []int{0, 1, 2, f.Size() - 1}, func(a matrix.Mat) {
			v := someNumbers(r, f, 2)
			got, e := Solve(f, a, v)
			inverse := slowInverse(f, a)
			if inverse == nil {
				refused(t, fmt.Sprintf("Solve of %v and %v", a, v), got, e, api.ErrSing)
				return
			}
			wantRow(t, fmt.Sprintf("Solve of %v and %v", a, v), got, e, apply(t, f, inverse, v))
		})
	}
}

// Where there is no inverse nothing is solved, even where columns could be found that are turned into v.
func TestSolveOfWhatHasNoInverse(t *testing.T) {
	r := numbers()
	for _, f := range fields(t) {
		for _, a := range singulars() {
			n := len(a)
			for _, v := range [][]int{make([]int, n), someNumbers(r, f, n), apply(t, f, a, someNumbers(r, f, n))} {
				got, e := Solve(f, a, v)
				refused(t, fmt.Sprintf("Solve of %v and %v", a, v), got, e, api.ErrSing)
			}
		}
		for n := 1; n <= 20; n++ {
			a := ranked(t, r, f, n, n, n-1)
			got, e := Solve(f, a, someNumbers(r, f, n))
			refused(t, fmt.Sprint("Solve of ", a), got, e, api.ErrSing)
		}
	}
}

// Whether there is an inverse or not, a column that does not fit is told first.
func TestSolveOfColumnsThatAreNotAsLong(t *testing.T) {
	for _, f := range fields(t) {
		for n := 1; n <= 20; n++ {
			for count := range 24 {
				v := slices.Repeat([]int{1}, count)
				for _, a := range []matrix.Mat{matrix.Identity(n), filled(n, n, 0)} {
					got, e := Solve(f, a, v)
					switch {
					case count != n:
						refused(t, fmt.Sprintf("Solve of %d rows and %d numbers", n, count), got, e, api.ErrArg)
					case a[0][0] == 0:
						refused(t, fmt.Sprintf("Solve of %d rows of noughts", n), got, e, api.ErrSing)
					default:
						wantRow(t, "Solve of the identity", got, e, v)
					}
				}
			}
			for _, v := range [][]int{nil, {}, make([]int, 1000)} {
				got, e := Solve(f, matrix.Identity(n), v)
				refused(t, fmt.Sprintf("Solve of %d rows and %d numbers", n, len(v)), got, e, api.ErrArg)
			}
		}
	}
}

func TestSolveOfWhatIsNoNumber(t *testing.T) {
	for _, f := range fields(t) {
		for _, stranger := range strangers(f) {
			for _, n := range []int{1, 2, 3, 20} {
				for place := range n {
					v := slices.Repeat([]int{1}, n)
					v[place] = stranger
					for _, a := range []matrix.Mat{matrix.Identity(n), filled(n, n, 0)} {
						got, e := Solve(f, a, v)
						refused(t, fmt.Sprintf("Solve of %d rows and %v", n, v), got, e, api.ErrArg)
					}
				}
			}
		}
	}
	narrow, wide := gf.New(8, 0x11D), gf.New(16, 0x1100B)
	for _, n := range []int{256, 65535} {
		got, e := Solve(narrow, matrix.Identity(2), []int{1, n})
		refused(t, fmt.Sprintf("of 8 bits %d", n), got, e, api.ErrArg)
		got, e = Solve(wide, matrix.Identity(2), []int{1, n})
		wantRow(t, fmt.Sprintf("of 16 bits %d", n), got, e, []int{1, n})
	}
}

func TestSolveOfWhatMayNotBe(t *testing.T) {
	for _, f := range append(fields(t), nil) {
		for _, c := range wrongs(f) {
			for _, v := range [][]int{nil, {1}, {1, 2}, slices.Repeat([]int{1}, len(c.a))} {
				got, e := Solve(f, c.a, v)
				refused(t, "Solve of "+c.what, got, e, api.ErrArg)
			}
		}
	}
	for _, n := range []int{1, 2, 20} {
		for _, a := range []matrix.Mat{matrix.Identity(n), filled(n, n, 0)} {
			got, e := Solve(nil, a, make([]int, n))
			refused(t, "Solve in no field", got, e, api.ErrArg)
		}
	}
}
