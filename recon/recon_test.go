package recon

import (
	"bytes"
	"math"
	"math/rand"
	"slices"
	"testing"

	"gambrel/api"
	"gambrel/codec"
	"gambrel/profile"
)

// numbers are a source of test inputs that is the same in each run.
func numbers() *rand.Rand { return rand.New(rand.NewSource(12)) }

// some are n bytes by chance.
func some(r *rand.Rand, n int) []byte {
	b := make([]byte, n)
	r.Read(b)
	return b
}

// someShards are count shards of n bytes by chance.
func someShards(r *rand.Rand, count, n int) [][]byte {
	shards := make([][]byte, count)
	for i := range shards {
		shards[i] = some(r, n)
	}
	return shards
}

// mostM is the most parity shards that each profile may have, by the table of chapter 9.
func mostM() map[int]int { return map[int]int{1: 4, 2: 4, 3: 3, 4: 4, 5: 4, 6: 4} }

// params goes through all that may be.
func params(do func(x api.Params)) {
	for p := 1; p <= 6; p++ {
		for k := 1; k <= 8; k++ {
			for m := 1; m <= mostM()[p]; m++ {
				do(api.Params{P: p, K: k, M: m})
			}
		}
	}
}

// wrong is params that may not be, each beside some that may.
func wrong() []api.Params {
	list := []api.Params{{}}
	for p := 1; p <= 6; p++ {
		for _, k := range []int{math.MinInt, -8, -1, 0, 9, 10, 257, math.MaxInt32, 1<<32 + 1, math.MaxInt} {
			list = append(list, api.Params{P: p, K: k, M: 1}, api.Params{P: p, K: k, M: mostM()[p]})
		}
		for _, m := range []int{math.MinInt, -1, 0, mostM()[p] + 1, 257, 1<<32 + 1, math.MaxInt} {
			list = append(list, api.Params{P: p, K: 1, M: m}, api.Params{P: p, K: 8, M: m})
		}
		// Of these both together are some few shards.
		list = append(list,
			api.Params{P: p, K: -1, M: 3}, api.Params{P: p, K: 3, M: -1}, api.Params{P: p, K: 0, M: 2}, api.Params{P: p, K: 2, M: 0},
			api.Params{P: p, K: math.MaxInt, M: math.MinInt + 3}, api.Params{P: p, K: math.MinInt + 3, M: math.MaxInt},
			api.Params{P: p, K: math.MinInt, M: math.MinInt}, api.Params{P: p, K: math.MaxInt, M: math.MaxInt})
	}
	for _, p := range []int{math.MinInt, -1, 0, 7, 8, 257, 1<<32 + 1, math.MaxInt} {
		list = append(list, api.Params{P: p, K: 1, M: 1}, api.Params{P: p, K: 2, M: 2}, api.Params{P: p, K: 8, M: 3})
	}
	return list
}

// lengths are the bytes of a shard, from none to many; none is odd in a field of 16 bits.
func lengths(x api.Params) []int {
	if x.P == api.JC {
		return []int{0, 2, 4, 6, 64, 1000}
	}
	return []int{0, 1, 2, 3, 4, 64, 1001}
}

// same tells whether two lists have the same shards.
func same(a, b [][]byte) bool { return slices.EqualFunc(a, b, bytes.Equal) }

// cloned is a copy of shards that shares nothing with them.
func cloned(shards [][]byte) [][]byte {
	all := make([][]byte, len(shards))
	for i, shard := range shards {
		all[i] = slices.Clone(shard)
	}
	return all
}

// shardsOf are shards, written as texts.
func shardsOf(texts ...string) [][]byte {
	var shards [][]byte
	for _, text := range texts {
		shards = append(shards, []byte(text))
	}
	return shards
}

// encoded is what is encoded of n bytes by chance.
func encoded(t *testing.T, r *rand.Rand, x api.Params, n int) [][]byte {
	t.Helper()
	shards, e := codec.Encode(x, some(r, n))
	if e != api.OK {
		t.Fatalf("Encode(%+v) of %d bytes: %v", x, n, e)
	}
	return shards
}

// times is a product by shifts, modulo the table's own polynomial.
func times(p, a, b int) int {
	bits, poly := 8, 0x11D
	if p == api.JC {
		bits, poly = 16, 0x1100B
	}
	product := 0
	for ; b > 0; b >>= 1 {
		if b&1 == 1 {
			product ^= a
		}
		a <<= 1
		if a>>bits == 1 {
			a ^= poly
		}
	}
	return product
}

// addTimes adds c times the bytes b to sum, number by number.
func addTimes(p int, sum []byte, c int, b []byte) {
	if p == api.JC {
		for j := 0; j < len(b); j += 2 {
			product := times(p, c, int(b[j])+256*int(b[j+1]))
			sum[j] ^= byte(product % 256)
			sum[j+1] ^= byte(product / 256)
		}
		return
	}
	for j, part := range b {
		sum[j] ^= byte(times(p, c, int(part)))
	}
}

// slowRows are the parity rows.
func slowRows(t *testing.T, x api.Params) [][]int {
	t.Helper()
	rows, e := profile.Parity(x)
	if e != api.OK || len(rows) != x.M {
		t.Fatalf("rows of %+v: %v, %v", x, rows, e)
	}
	return rows
}

// slowWhole is data, and parity of it behind, worked out by shifts.
func slowWhole(t *testing.T, x api.Params, data [][]byte) [][]byte {
	t.Helper()
	whole := cloned(data)
	for _, row := range slowRows(t, x) {
		shard := make([]byte, len(data[0]))
		for i, c := range row {
			addTimes(x.P, shard, c, data[i])
		}
		whole = append(whole, shard)
	}
	return whole
}

// there is which of count shards are, where these places are named.
func there(count int, places ...int) []bool {
	have := make([]bool, count)
	for _, place := range places {
		have[place] = true
	}
	return have
}

// allThere is that all shards of x are there.
func allThere(x api.Params) []bool { return slices.Repeat([]bool{true}, x.K+x.M) }

// masked is which of count shards are there, by the bits of a number.
func masked(count, mask int) []bool {
	have := make([]bool, count)
	for i := range have {
		have[i] = mask>>i&1 == 1
	}
	return have
}

// placesOf are the places of those that are there.
func placesOf(have []bool) []int {
	var places []int
	for place, ok := range have {
		if ok {
			places = append(places, place)
		}
	}
	return places
}

// spared is the shards that are there, and nothing in the place of the others.
func spared(shards [][]byte, have []bool) [][]byte {
	left := make([][]byte, len(shards))
	for _, place := range placesOf(have) {
		left[place] = shards[place]
	}
	return left
}

// choices goes through all lists of count of the numbers from 0 to below n, each rising.
func choices(n, count int, do func(chosen []int)) {
	var choose func(chosen []int, from int)
	choose = func(chosen []int, from int) {
		if len(chosen) == count {
			do(chosen)
			return
		}
		for i := from; i <= n-(count-len(chosen)); i++ {
			choose(append(chosen, i), i+1)
		}
	}
	choose(make([]int, 0, count), 0)
}

// dataOf is Data where nothing may be refused.
func dataOf(t *testing.T, x api.Params, shards [][]byte, have []bool) [][]byte {
	t.Helper()
	got, e := Data(x, shards, have)
	if e != api.OK {
		t.Fatalf("Data(%+v) of %v: %v", x, placesOf(have), e)
	}
	return got
}

// rebuilt is Rebuild where nothing may be refused.
func rebuilt(t *testing.T, x api.Params, shards [][]byte, have []bool) [][]byte {
	t.Helper()
	got, e := Rebuild(x, shards, have)
	if e != api.OK {
		t.Fatalf("Rebuild(%+v) of %v: %v", x, placesOf(have), e)
	}
	return got
}

// updated is Update where nothing may be refused.
func updated(t *testing.T, x api.Params, shards [][]byte, i int, b []byte) [][]byte {
	t.Helper()
	got, e := Update(x, shards, i, b)
	if e != api.OK {
		t.Fatalf("Update(%+v) of the shard %d: %v", x, i, e)
	}
	return got
}

// told holds what Data and Rebuild tell of the shards that are there: of whole, all shards, just as they were encoded.
func told(t *testing.T, what string, x api.Params, shards [][]byte, have []bool, whole [][]byte) {
	t.Helper()
	if got := dataOf(t, x, shards, have); !same(got, whole[:x.K]) {
		t.Fatalf("%s: Data(%+v) of %v: %.200q, not %.200q", what, x, placesOf(have), got, whole[:x.K])
	}
	if got := rebuilt(t, x, shards, have); !same(got, whole) {
		t.Fatalf("%s: Rebuild(%+v) of %v: %.200q, not %.200q", what, x, placesOf(have), got, whole)
	}
}

// refused holds that Data and Rebuild tell that error, and no shards.
func refused(t *testing.T, what string, x api.Params, shards [][]byte, have []bool, want api.Errno) {
	t.Helper()
	if got, e := Data(x, shards, have); len(got) != 0 || e != want {
		t.Errorf("%s: Data(%+v) of %d shards, %.60q, %v: %.60q, %v, not %v", what, x, len(shards), shards, have, got, e, want)
	}
	if got, e := Rebuild(x, shards, have); len(got) != 0 || e != want {
		t.Errorf("%s: Rebuild(%+v) of %d shards, %.60q, %v: %.60q, %v, not %v", what, x, len(shards), shards, have, got, e, want)
	}
}

// unchanged holds that Update tells ErrArg, and no shards.
func unchanged(t *testing.T, what string, x api.Params, shards [][]byte, i int, b []byte) {
	t.Helper()
	if got, e := Update(x, shards, i, b); len(got) != 0 || e != api.ErrArg {
		t.Errorf("%s: Update(%+v) of %d shards, %.60q, the place %d and %.20q: %.60q, %v, not refused", what, x, len(shards), shards, i, b, got, e)
	}
}

// Every call ends, at whatever arguments.
func TestCallsEnd(t *testing.T) {
	t.Parallel()
	r := numbers()
	odd := []int{math.MinInt, math.MinInt + 1, -1, 0, 1, 2, 3, 4, 5, 6, 7, 8, 9, 4096, 4097, math.MaxInt - 1, math.MaxInt}
	one := func() int { return odd[r.Intn(len(odd))] }
	for range 5000 {
		x := api.Params{P: one(), K: one(), M: one()}
		shards := make([][]byte, r.Intn(14))
		for i := range shards {
			shards[i] = make([]byte, r.Intn(3)*r.Intn(2))
		}
		have := masked(max(0, len(shards)+r.Intn(3)*r.Intn(3)-2), r.Intn(1<<14))
		b := make([]byte, r.Intn(3))
		Data(x, shards, have)
		Rebuild(x, shards, have)
		Update(x, shards, one(), b)
		x.P, x.K = 1+r.Intn(6), r.Intn(len(shards)+1)
		x.M = len(shards) - x.K
		Data(x, shards, have)
		Rebuild(x, shards, have)
		Update(x, shards, one(), b)
		Update(x, shards, r.Intn(9), b)
	}
}
