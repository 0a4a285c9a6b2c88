package codec

import (
	"bytes"
	"math"
	"math/rand"
	"slices"
	"testing"

	"gambrel/api"
	"gambrel/profile"
)

// numbers are a source of test inputs that is the same in each run.
func numbers() *rand.Rand { return rand.New(rand.NewSource(11)) }

// some are n bytes by chance.
func some(r *rand.Rand, n int) []byte {
	b := make([]byte, n)
	r.Read(b)
	return b
}

// someShards are count shards of n bytes by chance.
func someShards(r *rand.Rand, count, n int) [][]byte {
	shards := make([][]byte, count)
	for i := range shards {
		shards[i] = some(r, n)
	}
	return shards
}

// mostM is the most parity shards that each profile may have, by the table of chapter 9.
func mostM() map[int]int { return map[int]int{1: 4, 2: 4, 3: 3, 4: 4, 5: 4, 6: 4} }

// params goes through all that may be.
func params(do func(x api.Params)) {
	for p := 1; p <= 6; p++ {
		for k := 1; k <= 8; k++ {
			for m := 1; m <= mostM()[p]; m++ {
				do(api.Params{P: p, K: k, M: m})
			}
		}
	}
}

// wrong is params that may not be, each beside some that may.
func wrong() []api.Params {
	list := []api.Params{{}}
	for p := 1; p <= 6; p++ {
		for _, k := range []int{math.MinInt, -8, -1, 0, 9, 10, 257, math.MaxInt32, 1<<32 + 1, math.MaxInt} {
			list = append(list, api.Params{P: p, K: k, M: 1}, api.Params{P: p, K: k, M: mostM()[p]})
		}
		for _, m := range []int{math.MinInt, -1, 0, mostM()[p] + 1, 257, 1<<32 + 1, math.MaxInt} {
			list = append(list, api.Params{P: p, K: 1, M: m}, api.Params{P: p, K: 8, M: m})
		}
		// Of these both together are some few shards.
		list = append(list,
			api.Params{P: p, K: -1, M: 3}, api.Params{P: p, K: 3, M: -1}, api.Params{P: p, K: 0, M: 2}, api.Params{P: p, K: 2, M: 0},
			api.Params{P: p, K: math.MaxInt, M: math.MinInt + 3}, api.Params{P: p, K: math.MinInt + 3, M: math.MaxInt},
			api.Params{P: p, K: math.MinInt, M: math.MinInt}, api.Params{P: p, K: math.MaxInt, M: math.MaxInt})
	}
	for _, p := range []int{math.MinInt, -1, 0, 7, 8, 257, 1<<32 + 1, math.MaxInt} {
		list = append(list, api.Params{P: p, K: 1, M: 1}, api.Params{P: p, K: 2, M: 2}, api.Params{P: p, K: 8, M: 3})
	}
	return list
}

// lengths are the bytes of a shard, from none to many; none is odd in a field of 16 bits.
func lengths(x api.Params) []int {
	if x.P == api.JC {
		return []int{0, 2, 4, 6, 64, 1000}
	}
	return []int{0, 1, 2, 3, 4, 64, 1001}
}

// same tells whether two lists have the same shards.
func same(a, b [][]byte) bool { return slices.EqualFunc(a, b, bytes.Equal) }

// shardsOf are shards, written as texts.
func shardsOf(texts ...string) [][]byte {
	var shards [][]byte
	for _, text := range texts {
		shards = append(shards, []byte(text))
	}
	return shards
}

// parityOf is Parity where nothing may be refused.
func parityOf(t *testing.T, x api.Params, data [][]byte) [][]byte {
	t.Helper()
	got, e := Parity(x, data)
	if e != api.OK {
		t.Fatalf("Parity(%+v): %v", x, e)
	}
	return got
}

// times is a product by shifts, modulo the table's own polynomial.
func times(p, a, b int) int {
	bits, poly := 8, 0x11D
	if p == api.JC {
		bits, poly = 16, 0x1100B
	}
	product := 0
	for ; b > 0; b >>= 1 {
		if b&1 == 1 {
			product ^= a
		}
		a <<= 1
		if a>>bits == 1 {
			a ^= poly
		}
	}
	return product
}

// slowParity goes through the shards number by number, of all shards at once.
func slowParity(t *testing.T, x api.Params, data [][]byte) [][]byte {
	t.Helper()
	rows, e := profile.Parity(x)
	if e != api.OK || len(rows) != x.M {
		t.Fatalf("rows of %+v: %v, %v", x, rows, e)
	}
	parity := make([][]byte, x.M)
	for r, row := range rows {
		parity[r] = make([]byte, len(data[0]))
		for i, c := range row {
			if x.P == api.JC {
				for j := 0; j < len(data[i]); j += 2 {
					product := times(x.P, c, int(data[i][j])+256*int(data[i][j+1]))
					parity[r][j] ^= byte(product % 256)
					parity[r][j+1] ^= byte(product / 256)
				}
				continue
			}
			for j, b := range data[i] {
				parity[r][j] ^= byte(times(x.P, c, int(b)))
			}
		}
	}
	return parity
}

// refused holds that Parity tells ErrArg, and no shards.
func refused(t *testing.T, what string, x api.Params, data [][]byte) {
	t.Helper()
	if got, e := Parity(x, data); len(got) != 0 || e != api.ErrArg {
		t.Errorf("%s: Parity(%+v) of %d shards, %.40q: %q, %v, not refused", what, x, len(data), data, got, e)
	}
}

// The parity shards are worked out by hand, by the rows that stand beside them.
func TestParityAsItIsWritten(t *testing.T) {
	for _, c := range []struct {
		p, k, m    int
		data, want [][]byte
	}{
		// 1
		{api.JV, 1, 1, [][]byte{{7, 0, 255}}, [][]byte{{7, 0, 255}}},
		// 1 1 1
		{api.JV, 3, 1, [][]byte{{1, 255}, {2, 15}, {4, 0}}, [][]byte{{7, 240}}},
		// 1 1, 1 143
		{api.JV, 2, 2, [][]byte{{1}, {2}}, [][]byte{{3}, {2}}},
		{api.JV, 2, 2, [][]byte{{0, 1, 5}, {1, 0, 0}}, [][]byte{{1, 1, 5}, {143, 1, 5}}},
		// 1
		{api.JC, 1, 1, [][]byte{{1, 2, 255, 128}}, [][]byte{{1, 2, 255, 128}}},
		// 0x8805, 0xF006, of one number each: the inverses of 2 and 3
		{api.JC, 1, 2, [][]byte{{1, 0, 2, 0}}, [][]byte{{0x05, 0x88, 1, 0}, {0x06, 0xF0, 0x07, 0xF0}}},
		// 0x8805 0xF006, 0xF006 0x8805
		{api.JC, 2, 2, [][]byte{{1, 0}, {2, 0}}, [][]byte{{0x02, 0x78}, {0x07, 0xF0}}},
		{api.JC, 2, 2, [][]byte{{2, 0, 0, 0}, {0, 0, 2, 0}}, [][]byte{{1, 0, 0x07, 0xF0}, {0x07, 0xF0, 1, 0}}},
		// 1
		{api.IR, 1, 1, [][]byte{{9}}, [][]byte{{9}}},
		// 1 1, 1 2
		{api.IR, 2, 2, [][]byte{{1}, {2}}, [][]byte{{3}, {5}}},
		{api.IR, 2, 2, [][]byte{{0, 128}, {128, 1}}, [][]byte{{128, 129}, {29, 130}}},
		// 1 1 1 1 1, 1 2 4 8 16, 1 4 16 64 29
		{api.IR, 5, 3, [][]byte{{1}, {1}, {1}, {1}, {1}}, [][]byte{{1}, {31}, {1 ^ 4 ^ 16 ^ 64 ^ 29}}},
		{api.IR, 5, 3, [][]byte{{0}, {0}, {0}, {0}, {2}}, [][]byte{{2}, {32}, {58}}},
		// 244 142 1
		{api.IC, 3, 1, [][]byte{{1, 0, 0}, {0, 1, 2}, {0, 0, 4}}, [][]byte{{244, 142, 5}}},
		// 142 244, 244 142
		{api.IC, 2, 2, [][]byte{{1}, {2}}, [][]byte{{123}, {245}}},
		{api.IC, 2, 2, [][]byte{{2, 0, 1}, {0, 2, 0}}, [][]byte{{1, 245, 142}, {245, 1, 244}}},
		// 3 2
		{api.BB, 2, 1, [][]byte{{1, 128}, {2, 0}}, [][]byte{{7, 157}}},
		// 3 2, 2 3
		{api.BB, 2, 2, [][]byte{{1}, {2}}, [][]byte{{7}, {4}}},
		{api.KP, 2, 1, [][]byte{{1, 128}, {2, 0}}, [][]byte{{7, 157}}},
		{api.KP, 2, 2, [][]byte{{1}, {2}}, [][]byte{{7}, {4}}},
		// 0x1B 0x1C 0x12 0x14, 0x1C 0x1B 0x14 0x12
		{api.KP, 4, 2, [][]byte{{1, 0}, {0, 1}, {1, 0}, {0, 2}}, [][]byte{{0x09, 0x34}, {0x08, 0x3F}}},
	} {
		x := api.Params{P: c.p, K: c.k, M: c.m}
		if got := parityOf(t, x, c.data); !same(got, c.want) {
			t.Errorf("Parity(%+v, %v): %v, not %v", x, c.data, got, c.want)
		}
	}
}

// Jerasure's parity of one shard is exclusive or of all data shards, and so is the first of any more.
func TestParityOfOneShardIsExclusiveOr(t *testing.T) {
	r := numbers()
	for k := 1; k <= 8; k++ {
		data := someShards(r, k, 24)
		want := make([]byte, 24)
		for _, shard := range data {
			for i, b := range shard {
				want[i] ^= b
			}
		}
		for m := 1; m <= 4; m++ {
			if got := parityOf(t, api.Params{P: api.JV, K: k, M: m}, data); !bytes.Equal(got[0], want) {
				t.Errorf("of %d and %d: %v, not %v", k, m, got[0], want)
			}
		}
	}
}

func TestParityIsOfEachRow(t *testing.T) {
	r := numbers()
	params(func(x api.Params) {
		for _, n := range lengths(x) {
			data := someShards(r, x.K, n)
			got := parityOf(t, x, data)
			if !same(got, slowParity(t, x, data)) {
				t.Errorf("Parity(%+v) of %d bytes each: %v, not %v", x, n, got, slowParity(t, x, data))
			}
			if len(got) != x.M || slices.ContainsFunc(got, func(shard []byte) bool { return len(shard) != n }) {
				t.Errorf("Parity(%+v) of %d bytes each: %d shards", x, n, len(got))
			}
		}
	})
}

// Of data shards that are 0 but for a number 1 in one of them parity are the rows themselves.
func TestParityOfOneNumber(t *testing.T) {
	params(func(x api.Params) {
		rows, e := profile.Parity(x)
		if e != api.OK {
			t.Fatalf("rows of %+v: %v", x, e)
		}
		for i := range x.K {
			data := make([][]byte, x.K)
			for j := range data {
				data[j] = []byte{0, 0}
			}
			data[i][0] = 1
			for r, shard := range parityOf(t, x, data) {
				want := []byte{byte(rows[r][i]), byte(rows[r][i] >> 8)}
				if !bytes.Equal(shard, want) {
					t.Errorf("Parity(%+v) of 1 in the place %d: the shard %d is %v, not %v", x, i, r, shard, want)
				}
			}
		}
	})
}

// No bytes are M shards of none, whether the shards are nil or empty.
func TestParityOfNoBytes(t *testing.T) {
	params(func(x api.Params) {
		mixed := make([][]byte, x.K)
		mixed[x.K-1] = []byte{}
		for _, data := range [][][]byte{make([][]byte, x.K), slices.Repeat([][]byte{{}}, x.K), mixed} {
			got := parityOf(t, x, data)
			if len(got) != x.M || slices.ContainsFunc(got, func(shard []byte) bool { return len(shard) != 0 }) {
				t.Errorf("Parity(%+v) of no bytes: %q", x, got)
			}
		}
	})
}

func TestParityOfWrongParams(t *testing.T) {
	for _, x := range wrong() {
		for _, k := range []int{0, 1, 2, 3, 8, 9} {
			refused(t, "params", x, make([][]byte, k))
			refused(t, "params", x, slices.Repeat([][]byte{{1, 2}}, k))
		}
		refused(t, "params", x, [][]byte{{1}, nil})
	}
}

func TestParityOfAnotherNumberOfShards(t *testing.T) {
	params(func(x api.Params) {
		refused(t, "nil", x, nil)
		refused(t, "none", x, [][]byte{})
		for _, k := range []int{0, x.K - 1, x.K + 1, x.K + x.M, 2 * x.K, x.K + 8, 100} {
			if k == x.K {
				continue
			}
			refused(t, "no bytes", x, make([][]byte, k))
			refused(t, "two bytes", x, slices.Repeat([][]byte{{1, 2}}, k))
		}
		// Even if what is one too many has no bytes.
		refused(t, "nil behind", x, append(slices.Repeat([][]byte{{1, 2}}, x.K), nil))
	})
}

func TestParityOfUnlikeLengths(t *testing.T) {
	params(func(x api.Params) {
		if x.K == 1 {
			return
		}
		for i := range x.K {
			for _, n := range []int{0, 1, 2, 3, 5, 6, 8, 4096} {
				data := slices.Repeat([][]byte{{1, 2, 3, 4}}, x.K)
				data[i] = make([]byte, n)
				refused(t, "unlike", x, data)
			}
			data := make([][]byte, x.K)
			data[i] = []byte{0, 0}
			refused(t, "one with bytes", x, data)
		}
		// As many bytes in all, and as many whole numbers.
		data := slices.Repeat([][]byte{{1, 2, 3, 4}}, x.K)
		data[0], data[1] = []byte{1, 2}, []byte{1, 2, 3, 4, 5, 6}
		refused(t, "as many in all", x, data)
	})
}

// An odd number of bytes is told in a field of 8 bits, and refused in one of 16.
func TestParityOfAnOddNumberOfBytes(t *testing.T) {
	r := numbers()
	params(func(x api.Params) {
		for _, n := range []int{1, 3, 7, 15, 1001} {
			data := someShards(r, x.K, n)
			if x.P == api.JC {
				refused(t, "odd", x, data)
				refused(t, "odd noughts", x, slices.Repeat([][]byte{make([]byte, n)}, x.K))
			} else if got := parityOf(t, x, data); !same(got, slowParity(t, x, data)) {
				t.Errorf("Parity(%+v) of %d bytes each: %v", x, n, got)
			}
		}
	})
}

// A shard may be longer than any that an object is split into.
func TestParityOfLongShards(t *testing.T) {
	r := numbers()
	for p := 1; p <= 6; p++ {
		x := api.Params{P: p, K: 2, M: mostM()[p]}
		for _, n := range []int{4096, 4098, 65536, 100000} {
			data := someShards(r, x.K, n)
			if got := parityOf(t, x, data); !same(got, slowParity(t, x, data)) {
				t.Errorf("Parity(%+v) of %d bytes each is another", x, n)
			}
		}
	}
}
