package recon

import (
	"math"
	"slices"
	"testing"

	"gambrel/api"
)

// The shards are worked out by hand, by the parity rows that stand beside them.
func TestUpdateAsItIsWritten(t *testing.T) {
	t.Parallel()
	for _, c := range []struct {
		p, k, m int
		shards  [][]byte
		i       int
		b       []byte
		want    [][]byte
	}{
		// 1
		{api.JV, 1, 1, [][]byte{{7, 0}, {7, 0}}, 0, []byte{9, 1}, [][]byte{{9, 1}, {9, 1}}},
		// 1 1, 1 143
		{api.JV, 2, 2, [][]byte{{1}, {2}, {3}, {2}}, 0, []byte{5}, [][]byte{{5}, {2}, {7}, {6}}},
		{api.JV, 2, 2, [][]byte{{1}, {0}, {1}, {1}}, 1, []byte{1}, [][]byte{{1}, {1}, {0}, {142}}},
		// 0x8805, 0xF006, of one number each
		{api.JC, 1, 2, [][]byte{{0, 0, 0, 0}, {0, 0, 0, 0}, {0, 0, 0, 0}}, 0, []byte{1, 0, 2, 0}, [][]byte{{1, 0, 2, 0}, {0x05, 0x88, 1, 0}, {0x06, 0xF0, 0x07, 0xF0}}},
		// 0x8805 0xF006, 0xF006 0x8805
		{api.JC, 2, 2, [][]byte{{1, 0}, {0, 0}, {0x05, 0x88}, {0x06, 0xF0}}, 1, []byte{2, 0}, [][]byte{{1, 0}, {2, 0}, {0x02, 0x78}, {0x07, 0xF0}}},
		// 1 1, 1 2
		{api.IR, 2, 2, [][]byte{{1}, {2}, {3}, {5}}, 0, []byte{3}, [][]byte{{3}, {2}, {1}, {7}}},
		{api.IR, 2, 2, [][]byte{{1}, {2}, {3}, {5}}, 1, []byte{0}, [][]byte{{1}, {0}, {1}, {1}}},
		// 1 1 1 1 1, 1 2 4 8 16, 1 4 16 64 29
		{api.IR, 5, 3, [][]byte{{0}, {0}, {0}, {0}, {0}, {0}, {0}, {0}}, 4, []byte{2}, [][]byte{{0}, {0}, {0}, {0}, {2}, {2}, {32}, {58}}},
		// 142 244, 244 142
		{api.IC, 2, 2, [][]byte{{1}, {0}, {142}, {244}}, 1, []byte{2}, [][]byte{{1}, {2}, {123}, {245}}},
		// 3 2, 2 3
		{api.BB, 2, 2, [][]byte{{1}, {2}, {7}, {4}}, 1, []byte{0}, [][]byte{{1}, {0}, {3}, {2}}},
		{api.KP, 2, 2, shardsOf("ab", "c\x00", "\x65\xa6", "\x67\xc4"), 0, []byte("\x00b"), shardsOf("\x00b", "c\x00", "\xc6\xa6", "\xa5\xc4")},
		// Parity that isn't the data's is changed by as much, too.
		{api.IR, 2, 2, [][]byte{{1}, {2}, {100}, {200}}, 1, []byte{3}, [][]byte{{1}, {3}, {101}, {202}}},
		{api.KP, 2, 1, [][]byte{{1}, {2}, {0}}, 0, []byte{0}, [][]byte{{0}, {2}, {3}}},
	} {
		x := api.Params{P: c.p, K: c.k, M: c.m}
		if got := updated(t, x, c.shards, c.i, c.b); !same(got, c.want) {
			t.Errorf("Update(%+v, %v, %d, %v): %v, not %v", x, c.shards, c.i, c.b, got, c.want)
		}
	}
}

// What is updated is what would have been encoded, of each length and in each data shard's place.
func TestUpdatedIsWhatWouldBeEncoded(t *testing.T) {
	t.Parallel()
	r := numbers()
	params(func(x api.Params) {
		for _, n := range lengths(x) {
			data := someShards(r, x.K, n)
			whole := slowWhole(t, x, data)
			for i := range x.K {
				data[i] = some(r, n)
				want := slowWhole(t, x, data)
				if got := updated(t, x, whole, i, data[i]); !same(got, want) {
					t.Fatalf("Update(%+v) of %d bytes each, the shard %d: %v, not %v", x, n, i, got, want)
				}
				whole = want
			}
		}
	})
}

// Of shards that nobody encoded those of the other places stay, and parity shards are changed by what changes.
func TestUpdateOfAnyShards(t *testing.T) {
	t.Parallel()
	r := numbers()
	params(func(x api.Params) {
		shards := someShards(r, x.K+x.M, 6)
		for i := range x.K {
			b := some(r, 6)
			want := cloned(shards)
			want[i] = b
			for place, row := range slowRows(t, x) {
				addTimes(x.P, want[x.K+place], row[i], shards[i])
				addTimes(x.P, want[x.K+place], row[i], b)
			}
			if got := updated(t, x, shards, i, b); !same(got, want) {
				t.Fatalf("Update(%+v) of the shard %d: %v, not %v", x, i, got, want)
			}
			if got := updated(t, x, shards, i, shards[i]); !same(got, shards) {
				t.Fatalf("Update(%+v) of the shard %d by itself: %v, not %v", x, i, got, shards)
			}
		}
	})
}

// No bytes are K + M shards of none, whether they are nil or empty.
func TestUpdateOfNoBytes(t *testing.T) {
	t.Parallel()
	params(func(x api.Params) {
		count := x.K + x.M
		for _, shards := range [][][]byte{make([][]byte, count), slices.Repeat([][]byte{{}}, count)} {
			for _, b := range [][]byte{nil, {}} {
				if got := updated(t, x, shards, x.K-1, b); !same(got, make([][]byte, count)) {
					t.Errorf("Update(%+v) of no bytes: %q", x, got)
				}
			}
		}
	})
}

func TestUpdateOfLongShards(t *testing.T) {
	t.Parallel()
	r := numbers()
	for p := 1; p <= 6; p++ {
		x := api.Params{P: p, K: 2, M: mostM()[p]}
		for _, n := range []int{4096, 4098, 65536} {
			data := someShards(r, x.K, n)
			whole := slowWhole(t, x, data)
			data[1] = some(r, n)
			if got := updated(t, x, whole, 1, data[1]); !same(got, slowWhole(t, x, data)) {
				t.Errorf("Update(%+v) of %d bytes each is another", x, n)
			}
		}
	}
}

func TestUpdateOfWrongParams(t *testing.T) {
	t.Parallel()
	for _, x := range wrong() {
		for _, count := range []int{0, 1, 2, 3, 4, 9, 11, 12, 13} {
			for _, i := range []int{-1, 0, 1} {
				unchanged(t, "params", x, make([][]byte, count), i, nil)
				unchanged(t, "params", x, slices.Repeat([][]byte{{1, 2}}, count), i, []byte{3, 4})
			}
		}
	}
}

func TestUpdateOfAnotherNumberOfShards(t *testing.T) {
	t.Parallel()
	params(func(x api.Params) {
		count := x.K + x.M
		unchanged(t, "nil", x, nil, 0, nil)
		for _, n := range []int{0, x.K - 1, x.K, count - 1, count + 1, 2 * count, 64} {
			if n == count {
				continue
			}
			for i := range x.K {
				unchanged(t, "no bytes", x, make([][]byte, n), i, nil)
				unchanged(t, "two bytes", x, slices.Repeat([][]byte{{1, 2}}, n), i, []byte{3, 4})
			}
		}
		// Even if what is one too many has no bytes.
		unchanged(t, "nil behind", x, append(slices.Repeat([][]byte{{1, 2}}, count), nil), 0, []byte{3, 4})
	})
}

// A place below 0, a parity shard's, and places far beyond.
func TestUpdateOfNoDataShard(t *testing.T) {
	t.Parallel()
	params(func(x api.Params) {
		count := x.K + x.M
		places := []int{math.MinInt, math.MinInt + 1, -1 << 32, -count, -2, -1, count, count + 1, 256, 1 << 32, math.MaxInt - 1, math.MaxInt}
		for place := x.K; place < count; place++ {
			places = append(places, place)
		}
		for _, place := range places {
			unchanged(t, "no data shard", x, make([][]byte, count), place, nil)
			unchanged(t, "no data shard", x, slices.Repeat([][]byte{{1, 2}}, count), place, []byte{3, 4})
			unchanged(t, "no data shard", x, slices.Repeat([][]byte{{1, 2}}, count), place, []byte{1, 2})
		}
	})
}

// Bytes that are too few or too many for the shard, also as many as other shards have, and fewer by whole numbers.
func TestUpdateOfBytesOfAnotherLength(t *testing.T) {
	t.Parallel()
	params(func(x api.Params) {
		shards := slices.Repeat([][]byte{{1, 2, 3, 4}}, x.K+x.M)
		for i := range x.K {
			unchanged(t, "nil", x, shards, i, nil)
			for _, n := range []int{0, 1, 2, 3, 5, 6, 8, 4096} {
				unchanged(t, "another length", x, shards, i, make([]byte, n))
			}
			unchanged(t, "bytes for none", x, make([][]byte, x.K+x.M), i, []byte{0, 0})
		}
	})
}

// One shard of another length, in each place in turn, whichever shard is updated, with bytes as long as that or as the others.
func TestUpdateOfUnlikeLengths(t *testing.T) {
	t.Parallel()
	params(func(x api.Params) {
		for place := range x.K + x.M {
			for _, n := range []int{0, 2, 3, 5, 6} {
				shards := slices.Repeat([][]byte{{1, 2, 3, 4}}, x.K+x.M)
				shards[place] = make([]byte, n)
				for i := range x.K {
					unchanged(t, "unlike", x, shards, i, []byte{5, 6, 7, 8})
					unchanged(t, "unlike, as long as that one", x, shards, i, make([]byte, n))
				}
			}
		}
	})
}

// An odd number of bytes is refused in a field of 16 bits, even if nothing changes.
func TestUpdateOfAnOddNumberOfBytes(t *testing.T) {
	t.Parallel()
	r := numbers()
	params(func(x api.Params) {
		for _, n := range []int{1, 3, 7, 1001} {
			shards := slices.Repeat([][]byte{make([]byte, n)}, x.K+x.M)
			b := some(r, n)
			for i := range x.K {
				if x.P == api.JC {
					unchanged(t, "odd", x, shards, i, b)
					unchanged(t, "odd, by itself", x, shards, i, shards[i])
					continue
				}
				data := slices.Clone(shards[:x.K])
				data[i] = b
				if got := updated(t, x, shards, i, b); !same(got, slowWhole(t, x, data)) {
					t.Errorf("Update(%+v) of %d bytes each: %v", x, n, got)
				}
			}
		}
	})
}
