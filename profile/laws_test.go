package profile

import (
	"math/rand"
	"slices"
	"sync"
	"testing"

	"gambrel/api"
	"gambrel/cauchy"
	"gambrel/gf"
	"gambrel/invert"
	"gambrel/matrix"
)

// numbers are a source of test inputs that is the same in each run.
func numbers() *rand.Rand { return rand.New(rand.NewSource(9)) }

func TestParityRowsAreSafe(t *testing.T) {
	params(func(x api.Params) {
		if safe, e := cauchy.Safe(Field(x.P), parity(t, x)); !safe || e != api.OK {
			t.Errorf("Safe of %+v: %v, %v", x, safe, e)
		}
	})
}

// choices goes through all lists of count of the numbers from 0 to below n, each rising.
func choices(n, count int, do func(chosen []int)) {
	var choose func(chosen []int, from int)
	choose = func(chosen []int, from int) {
		if len(chosen) == count {
			do(chosen)
			return
		}
		for i := from; i <= n-(count-len(chosen)); i++ {
			choose(append(chosen, i), i+1)
		}
	}
	choose(make([]int, 0, count), 0)
}

// holdShards holds that the chosen ones of all shards, a number each, tell the data, and so the others.
func holdShards(t *testing.T, x api.Params, f *gf.Field, whole matrix.Mat, shards, chosen []int) {
	t.Helper()
	rows, e := matrix.Pick(f, whole, chosen)
	if e != api.OK {
		t.Fatalf("%+v: Pick of %v: %v", x, chosen, e)
	}
	known := make([]int, len(chosen))
	for i, place := range chosen {
		known[i] = shards[place]
	}
	data, e := invert.Solve(f, rows, known)
	if e != api.OK || !slices.Equal(data, shards[:x.K]) {
		t.Errorf("%+v: the shards %v of %v tell %v, %v", x, chosen, shards, data, e)
	}
}

// Without cauchy.Safe: any K of all shards tell the others.
func TestAnyShardsTellTheOthers(t *testing.T) {
	r := numbers()
	params(func(x api.Params) {
		f := Field(x.P)
		rows := parity(t, x)
		data := make([]int, x.K)
		for i := range data {
			data[i] = r.Intn(f.Size())
		}
		extra, e := matrix.Apply(f, rows, data)
		if e != api.OK {
			t.Fatalf("%+v: Apply: %v", x, e)
		}
		whole, e := matrix.Join(f, matrix.Identity(x.K), rows)
		if e != api.OK {
			t.Fatalf("%+v: Join: %v", x, e)
		}
		shards := slices.Concat(data, extra)
		choices(x.K+x.M, x.K, func(chosen []int) { holdShards(t, x, f, whole, shards, chosen) })
	})
}

// What is handed in stays as it is.
func TestParamsHandedInStay(t *testing.T) {
	ask := func(x *api.Params) {
		before := *x
		May(*x)
		Parity(*x)
		Of(x.P)
		Field(x.P)
		if *x != before {
			t.Errorf("%+v became %+v", before, *x)
		}
	}
	params(func(x api.Params) { ask(&x) })
	wrong(func(x api.Params) { ask(&x) })
	for _, row := range written() {
		tag := []byte(row.Tag + "behind")
		text := string(tag[:2])
		Tagged(text)
		if text != row.Tag || string(tag) != row.Tag+"behind" {
			t.Errorf("the tag %q became %q", row.Tag, text)
		}
	}
}

// writeOver writes over all that was told, with the room behind it, and holds that each row has memory of its own.
func writeOver(t *testing.T, got matrix.Mat) {
	t.Helper()
	for i, row := range got {
		var others matrix.Mat
		for _, other := range got[i+1:] {
			others = append(others, slices.Clone(other[:cap(other)]))
		}
		for j := range row[:cap(row)] {
			row[:cap(row)][j] = -1
		}
		for n, other := range got[i+1:] {
			if !slices.Equal(other[:cap(other)], others[n]) {
				t.Fatal("rows share memory")
			}
		}
	}
	for i := range got[:cap(got)] {
		got[:cap(got)][i] = []int{-1}
	}
}

// One call's rows are not another's, nor those of other params.
func TestParityIsMadeAnew(t *testing.T) {
	params(func(x api.Params) {
		want := rowsOf(t, x)
		one, two := parity(t, x), parity(t, x)
		writeOver(t, one)
		if !same(two, want) {
			t.Errorf("Parity(%+v) became %v", x, two)
		}
		if again := parity(t, x); !same(again, want) {
			t.Errorf("Parity(%+v) is %v from then on", x, again)
		}
	})
	params(func(x api.Params) {
		if got := parity(t, x); !same(got, rowsOf(t, x)) {
			t.Errorf("Parity(%+v) is %v behind all others", x, got)
		}
	})
}

func TestAllIsMadeAnew(t *testing.T) {
	one, two := All(), All()
	for i := range one[:cap(one)] {
		one[:cap(one)][i] = -1
	}
	want := []int{1, 2, 3, 4, 5, 6}
	// Ahead of another call, which could mend what is shared.
	if !slices.Equal(two, want) {
		t.Errorf("All became %v", two)
	}
	if again := All(); !slices.Equal(again, want) {
		t.Errorf("All is %v from then on", again)
	}
	if p, ok := Tagged("jv"); p != 1 || !ok {
		t.Errorf("Tagged(jv) became %d", p)
	}
}

// A row that was told may be changed without the table.
func TestOfIsMadeAnew(t *testing.T) {
	for p, want := range written() {
		row, _ := Of(p)
		row.Tag, row.Bits, row.Poly, row.Layout, row.MaxM = "xx", 1, 2, 'x', 100
		if got, ok := Of(p); got != want || !ok || row == got {
			t.Errorf("Of(%d) became %+v", p, got)
		}
		if got, ok := Tagged(want.Tag); got != p || !ok {
			t.Errorf("Tagged(%q) became %d", want.Tag, got)
		}
		if got, ok := Tagged("xx"); got != 0 || ok {
			t.Errorf("Tagged(xx) became %d", got)
		}
		if May(api.Params{P: p, K: 1, M: want.MaxM + 1}) {
			t.Errorf("%d took another MaxM", p)
		}
	}
}

// Fields have tables of their own, so that one that is told twice, or of two profiles, would be kept from call to call.
func TestFieldIsMadeAnew(t *testing.T) {
	var seen []*gf.Field
	for range 2 {
		for p := 1; p <= 6; p++ {
			f := Field(p)
			if slices.Contains(seen, f) {
				t.Errorf("Field(%d) was told before", p)
			}
			seen = append(seen, f)
		}
	}
}

// Tags and profiles are told there and back.
func TestTagsThereAndBack(t *testing.T) {
	for _, p := range All() {
		row, ok := Of(p)
		if !ok {
			t.Fatalf("Of(%d) is none", p)
		}
		if got, ok := Tagged(row.Tag); got != p || !ok {
			t.Errorf("Tagged(%q): %d, %v, not %d", row.Tag, got, ok, p)
		}
	}
}

// Nothing hangs on who else asks.
func TestManyAtOnce(t *testing.T) {
	var group sync.WaitGroup
	for range 4 {
		group.Go(func() {
			params(func(x api.Params) {
				rows, e := Parity(x)
				if e != api.OK || len(rows) != x.M || len(All()) != 6 || !May(x) {
					t.Errorf("%+v: %v, %v", x, rows, e)
				}
			})
		})
	}
	group.Wait()
}
