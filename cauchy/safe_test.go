package cauchy

import (
	"fmt"
	"math/rand"
	"slices"
	"testing"

	"gambrel/api"
	"gambrel/gf"
	"gambrel/matrix"
	"gambrel/vander"
)

// wantSafe holds what Safe tells of a matrix that is within its limits.
func wantSafe(t *testing.T, what string, f *gf.Field, p matrix.Mat, want bool) {
	t.Helper()
	if got, e := Safe(f, p); got != want || e != api.OK {
		t.Errorf("%s: Safe of %d bits, %v: %v, %v, not %v", what, f.Bits(), p, got, e, want)
	}
}

// notAsked holds that Safe told ErrArg, and false.
func notAsked(t *testing.T, what string, f *gf.Field, p matrix.Mat) {
	t.Helper()
	if got, e := Safe(f, p); got || e != api.ErrArg {
		t.Errorf("Safe of %s: %v, %v, not refused", what, got, e)
	}
}

// subsets are all lists of count of the numbers from 0 to below n, each rising.
func subsets(n, count int) [][]int {
	if count == 0 {
		return [][]int{nil}
	}
	var all [][]int
	for last := count - 1; last < n; last++ {
		for _, ahead := range subsets(last, count-1) {
			all = append(all, append(ahead, last))
		}
	}
	return all
}

// cut is what stands where these rows and these columns of a meet.
func cut(a matrix.Mat, rows, cols []int) matrix.Mat {
	var square matrix.Mat
	for _, i := range rows {
		var row []int
		for _, j := range cols {
			row = append(row, a[i][j])
		}
		square = append(square, row)
	}
	return square
}

// determinant goes along the first row: a sum of products with the determinants of what is left, signs meaning nothing here.
func determinant(f *gf.Field, a matrix.Mat) int {
	if len(a) == 0 {
		return 1
	}
	sum := 0
	for j, n := range a[0] {
		var left matrix.Mat
		for _, row := range a[1:] {
			left = append(left, slices.Delete(slices.Clone(row), j, j+1))
		}
		sum ^= f.Mul(n, determinant(f, left))
	}
	return sum
}

// squares goes through the rows and columns of all squares that can be cut out of a matrix.
func squares(rows, cols int, do func(rows, cols []int)) {
	for side := 1; side <= min(rows, cols); side++ {
		for _, some := range subsets(rows, side) {
			for _, others := range subsets(cols, side) {
				do(some, others)
			}
		}
	}
}

// spoilt is how many squares cut out of p have no inverse. Rows of the identity, and such of p, have one just if what is cut out
// of these, in the columns in which none of those has its 1, has one: so p is safe just if there are none.
func spoilt(f *gf.Field, p matrix.Mat) int {
	count := 0
	squares(len(p), len(p[0]), func(rows, cols []int) {
		if determinant(f, cut(p, rows, cols)) == 0 {
			count++
		}
	})
	return count
}

// filled is a matrix of one number.
func filled(rows, cols, n int) matrix.Mat {
	var a matrix.Mat
	for range rows {
		a = append(a, slices.Repeat([]int{n}, cols))
	}
	return a
}

// chance is a matrix of numbers by chance, below a limit.
func chance(r *rand.Rand, rows, cols, limit int) matrix.Mat {
	a := filled(rows, cols, 0)
	for _, row := range a {
		for j := range row {
			row[j] = r.Intn(limit)
		}
	}
	return a
}

// cauchyRows are rows of Of by chance, which are safe.
func cauchyRows(t *testing.T, r *rand.Rand, f *gf.Field, rows, cols int) matrix.Mat {
	t.Helper()
	list := apart(r, f, rows+cols)
	return askedOf(t, f, list[:rows], list[rows:])
}

func TestSafeAsItIsWritten(t *testing.T) {
	for _, f := range fields(t) {
		for _, c := range []struct {
			p    matrix.Mat
			want bool
		}{
			{matrix.Mat{{1}}, true},
			{matrix.Mat{{7}}, true},
			{matrix.Mat{{f.Size() - 1}}, true},
			{matrix.Mat{{0}}, false},
			{matrix.Mat{{1, 1}}, true},
			{matrix.Mat{{1, 0}}, false},
			{matrix.Mat{{0, 1}}, false},
			{matrix.Mat{{1}, {1}}, true},
			{matrix.Mat{{1}, {0}}, false},
			{matrix.Mat{{1}, {1}, {1}, {1}, {1}}, true},
			{matrix.Mat{{1, 1}, {1, 2}}, true},
			{matrix.Mat{{1, 1}, {1, 1}}, false},
			{matrix.Mat{{1, 1}, {2, 2}}, false},
			{matrix.Mat{{1, 2}, {2, 4}}, false},
			{matrix.Mat{{1, 2}, {2, 1}}, true},
			{matrix.Mat{{1, 0}, {0, 1}}, false},
			{matrix.Mat{{1, 1, 1}, {1, 2, 4}, {1, 4, 16}}, true},
			// No two rows and columns are at fault here, but all three: the last row is the others' sum.
			{matrix.Mat{{1, 1, 1}, {2, 3, 4}, {3, 2, 5}}, false},
			// The same in the columns.
			{matrix.Mat{{1, 2, 3}, {1, 3, 2}, {1, 4, 5}}, false},
		} {
			wantSafe(t, "as it is written", f, c.p, c.want)
		}
	}
}

// One 0 takes it away, wherever it stands.
func TestSafeOfWhatHasANought(t *testing.T) {
	r := numbers()
	for _, f := range fields(t) {
		for _, sides := range [][2]int{{1, 1}, {1, 8}, {5, 1}, {2, 3}, {5, 4}, {4, 8}} {
			p := cauchyRows(t, r, f, sides[0], sides[1])
			for i, row := range p {
				for j, n := range row {
					row[j] = 0
					wantSafe(t, fmt.Sprintf("0 in the row %d and the column %d", i, j), f, p, false)
					row[j] = n
				}
			}
			wantSafe(t, "without a 0", f, p, true)
		}
	}
}

// Of rows of one number no two are too alike, unless they are 0.
func TestSafeOfRowsAlike(t *testing.T) {
	r := numbers()
	for _, f := range fields(t) {
		for rows := 2; rows <= 5; rows++ {
			for cols := 1; cols <= 8; cols++ {
				for j := 1; j < rows; j++ {
					i := r.Intn(j)
					p := cauchyRows(t, r, f, rows, cols)
					p[j] = slices.Clone(p[i])
					wantSafe(t, fmt.Sprintf("the rows %d and %d alike", i, j), f, p, cols == 1)
					times := 1 + r.Intn(f.Size()-1)
					for column, n := range p[j] {
						p[j][column] = f.Mul(times, n)
					}
					wantSafe(t, fmt.Sprintf("the row %d that of %d, times %d", j, i, times), f, p, cols == 1)
				}
			}
		}
	}
}

func TestSafeOfColumnsAlike(t *testing.T) {
	r := numbers()
	for _, f := range fields(t) {
		for rows := 1; rows <= 5; rows++ {
			for cols := 2; cols <= 8; cols++ {
				p := cauchyRows(t, r, f, rows, cols)
				i, j := r.Intn(cols-1), cols-1
				for _, row := range p {
					row[j] = row[i]
				}
				wantSafe(t, fmt.Sprintf("the columns %d and %d alike", i, j), f, p, rows == 1)
			}
		}
	}
}

func TestSafeOfAllSmallOnes(t *testing.T) {
	narrow, wide := gf.New(8, 0x11D), gf.New(16, 0x1100B)
	for a := range 4 * 4 * 4 * 4 {
		p := matrix.Mat{{a & 3, a >> 2 & 3}, {a >> 4 & 3, a >> 6 & 3}}
		for _, f := range []*gf.Field{narrow, wide} {
			wantSafe(t, "of four numbers", f, p, spoilt(f, p) == 0)
			wantSafe(t, "of two numbers", f, p[:1], spoilt(f, p[:1]) == 0)
		}
	}
}

// Matrices by chance are held against the squares that are cut out of them; of each kind there are many.
func TestSafeByChance(t *testing.T) {
	r := numbers()
	told := map[bool]int{}
	for _, f := range fields(t) {
		for rows := 1; rows <= 5; rows++ {
			for cols := 1; cols <= 8; cols++ {
				limit := min(f.Size(), 4096)
				for _, p := range []matrix.Mat{chance(r, rows, cols, 8), chance(r, rows, cols, 256), chance(r, rows, cols, limit), chance(r, rows, cols, f.Size())} {
					want := spoilt(f, p) == 0
					wantSafe(t, "by chance", f, p, want)
					told[want]++
				}
			}
		}
	}
	if told[true] < 100 || told[false] < 100 {
		t.Errorf("safe or not: %v", told)
	}
}

// spoil makes one square of p have no inverse: its last number is changed so that the determinant becomes 0.
func spoil(t *testing.T, f *gf.Field, p matrix.Mat, rows, cols []int) matrix.Mat {
	t.Helper()
	last := len(rows) - 1
	square := cut(p, rows, cols)
	square[last][last] = 0
	n, ok := f.Div(determinant(f, square), determinant(f, cut(p, rows[:last], cols[:last])))
	if !ok {
		t.Fatalf("a smaller square of %v has no inverse already", p)
	}
	bad := cut(p, upTo(0, len(p)), upTo(0, len(p[0])))
	bad[rows[last]][cols[last]] = n
	return bad
}

// Each choice of rows is asked: one that has no inverse, while all others have one, is found.
func TestSafeFindsEachChoice(t *testing.T) {
	r := numbers()
	f := gf.New(16, 0x1100B)
	for _, sides := range [][2]int{{1, 1}, {1, 8}, {5, 1}, {2, 2}, {3, 3}, {2, 5}, {5, 2}, {3, 4}, {4, 4}} {
		squares(sides[0], sides[1], func(rows, cols []int) {
			for {
				p := spoil(t, f, cauchyRows(t, r, f, sides[0], sides[1]), rows, cols)
				// By chance another square may be spoilt along with it: then another matrix is taken.
				if spoilt(f, p) == 1 {
					wantSafe(t, fmt.Sprintf("without an inverse: the rows %v in the columns %v", rows, cols), f, p, false)
					return
				}
			}
		})
	}
}

// The same at the limits, of some choices, among which are the first ones and the last ones.
func TestSafeFindsChoicesAtTheLimits(t *testing.T) {
	r := numbers()
	f := gf.New(16, 0x1100B)
	for side := 1; side <= 5; side++ {
		some, others := subsets(5, side), subsets(8, side)
		for _, rows := range [][]int{some[0], some[r.Intn(len(some))], some[len(some)-1]} {
			for _, cols := range [][]int{others[0], others[r.Intn(len(others))], others[len(others)-1]} {
				p := cauchyRows(t, r, f, 5, 8)
				wantSafe(t, "ahead", f, p, true)
				wantSafe(t, fmt.Sprintf("without an inverse: the rows %v in the columns %v", rows, cols), f, spoil(t, f, p, rows, cols), false)
			}
		}
	}
}

// Rows of powers are safe up to 4 of them, and 5 of 5 numbers; by 0x11D no longer of 6 and more.
func TestSafeOfPowers(t *testing.T) {
	for _, f := range fields(t) {
		for k := 1; k <= 8; k++ {
			for m := 1; m <= 5; m++ {
				p, e := vander.Isal(f, k, m)
				if e != api.OK {
					t.Fatalf("vander.Isal of %d and %d: %v", k, m, e)
				}
				wantSafe(t, fmt.Sprintf("vander.Isal of %d and %d", k, m), f, p, spoilt(f, p) == 0)
			}
		}
	}
	f := gf.New(8, 0x11D)
	for k := 1; k <= 8; k++ {
		p, _ := vander.Isal(f, k, 5)
		wantSafe(t, "vander.Isal of 5 rows", f, p, k <= 5)
	}
}

// A matrix that may be is asked just within the limits, whether it is safe or not.
func TestSafeOfAllSides(t *testing.T) {
	r := numbers()
	for _, f := range fields(t) {
		for rows := 1; rows <= 22; rows++ {
			for cols := 1; cols <= 22; cols++ {
				what := fmt.Sprintf("%d rows of %d numbers", rows, cols)
				noughts := filled(rows, cols, 0)
				if rows > 5 || cols > 8 {
					notAsked(t, what, f, noughts)
					notAsked(t, what, f, filled(rows, cols, 1))
					if rows <= 20 && cols <= 20 {
						notAsked(t, what, f, cauchyRows(t, r, f, rows, cols))
					}
					continue
				}
				wantSafe(t, what, f, noughts, false)
				wantSafe(t, what, f, filled(rows, cols, 1), rows == 1 || cols == 1)
				wantSafe(t, what, f, cauchyRows(t, r, f, rows, cols), true)
			}
		}
	}
}

func TestSafeOfWhatMayNotBe(t *testing.T) {
	for _, f := range fields(t) {
		for _, p := range []matrix.Mat{
			nil, {}, {nil}, {{}}, {nil, nil}, {{1}, nil}, {nil, {1}}, {{1}, {}}, make(matrix.Mat, 5), make(matrix.Mat, 6), make(matrix.Mat, 100000),
			{{1, 1}, {1}}, {{1}, {1, 2}}, {{1, 1}, {1, 2}, {1, 2, 3}}, {make([]int, 9)}, {make([]int, 21)}, {make([]int, 100000)},
		} {
			notAsked(t, fmt.Sprintf("%d rows that may not be", len(p)), f, p)
		}
		for _, stranger := range strangers(f) {
			for _, sides := range [][2]int{{1, 1}, {2, 2}, {5, 8}} {
				for i := range sides[0] {
					for j := range sides[1] {
						for _, n := range []int{0, 1} {
							p := filled(sides[0], sides[1], n)
							p[i][j] = stranger
							notAsked(t, fmt.Sprint(p), f, p)
						}
					}
				}
			}
		}
	}
	narrow, wide := gf.New(8, 0x11D), gf.New(16, 0x1100B)
	for _, n := range []int{256, 65535} {
		notAsked(t, fmt.Sprintf("8 bits, %d", n), narrow, matrix.Mat{{1, n}})
		wantSafe(t, "of 16 bits", wide, matrix.Mat{{1, n}}, true)
	}
}

func TestSafeOfNoField(t *testing.T) {
	for _, p := range []matrix.Mat{nil, {}, {nil}, {{0}}, {{1}}, {{1, 1}, {1, 2}}, {{1, 0}}, filled(5, 8, 1), filled(6, 9, 1), filled(21, 21, 1)} {
		notAsked(t, fmt.Sprintf("no field, %v", p), nil, p)
	}
}

// choices tells each choice once, and ends where it is told to.
func TestChoices(t *testing.T) {
	for rows := 1; rows <= 13; rows++ {
		for count := 1; count <= rows; count++ {
			var got [][]int
			for chosen := range choices(rows, count) {
				got = append(got, chosen)
			}
			want := subsets(rows, count)
			slices.SortFunc(want, slices.Compare)
			if !same(got, want) {
				t.Errorf("choices of %d of %d rows: %v", count, rows, got)
			}
			for range choices(rows, count) {
				break
			}
		}
	}
}
