package recon

import (
	"math"
	"math/bits"
	"slices"
	"testing"

	"gambrel/api"
	"gambrel/codec"
)

// The shards are worked out by hand, by the parity rows that stand beside them.
func TestRebuildAsItIsWritten(t *testing.T) {
	t.Parallel()
	for _, c := range []struct {
		p, k, m int
		whole   [][]byte
	}{
		// 1
		{api.JV, 1, 1, [][]byte{{7, 0, 255}, {7, 0, 255}}},
		// 1 1
		{api.JV, 2, 1, [][]byte{{1, 255}, {2, 15}, {3, 240}}},
		// 1 1, 1 143
		{api.JV, 2, 2, [][]byte{{0, 1, 5}, {1, 0, 0}, {1, 1, 5}, {143, 1, 5}}},
		// 0x8805, 0xF006, of one number each: the inverses of 2 and 3
		{api.JC, 1, 2, [][]byte{{1, 0, 2, 0}, {0x05, 0x88, 1, 0}, {0x06, 0xF0, 0x07, 0xF0}}},
		// 0x8805 0xF006, 0xF006 0x8805
		{api.JC, 2, 2, [][]byte{{1, 0}, {2, 0}, {0x02, 0x78}, {0x07, 0xF0}}},
		// 1 1
		{api.IR, 2, 1, [][]byte{{9}, {12}, {5}}},
		// 1 1, 1 2
		{api.IR, 2, 2, [][]byte{{0, 128}, {128, 1}, {128, 129}, {29, 130}}},
		// 1 1 1 1 1, 1 2 4 8 16, 1 4 16 64 29
		{api.IR, 5, 3, [][]byte{{1}, {1}, {1}, {1}, {1}, {1}, {31}, {1 ^ 4 ^ 16 ^ 64 ^ 29}}},
		// 142 244, 244 142
		{api.IC, 2, 2, [][]byte{{2, 0, 1}, {0, 2, 0}, {1, 245, 142}, {245, 1, 244}}},
		// 3 2
		{api.BB, 2, 1, [][]byte{{1, 128}, {2, 0}, {7, 157}}},
		// 3 2, 2 3
		{api.BB, 2, 2, [][]byte{{1}, {2}, {7}, {4}}},
		{api.KP, 2, 2, shardsOf("ab", "c\x00", "\x65\xa6", "\x67\xc4")},
		// 0x1B 0x1C 0x12 0x14, 0x1C 0x1B 0x14 0x12
		{api.KP, 4, 2, [][]byte{{1, 0}, {0, 1}, {1, 0}, {0, 2}, {0x09, 0x34}, {0x08, 0x3F}}},
	} {
		x := api.Params{P: c.p, K: c.k, M: c.m}
		for mask := range 1 << (c.k + c.m) {
			have := masked(c.k+c.m, mask)
			if bits.OnesCount(uint(mask)) < c.k {
				refused(t, "as it is written", x, spared(c.whole, have), have, api.ErrFew)
				continue
			}
			told(t, "as it is written", x, spared(c.whole, have), have, c.whole)
		}
	}
}

// Two data shards and one parity shard, by rows of 1: without the first one it is the other two, added.
func TestRebuildWithoutTheFirst(t *testing.T) {
	t.Parallel()
	for _, p := range []int{api.JV, api.IR} {
		x := api.Params{P: p, K: 2, M: 1}
		got := rebuilt(t, x, [][]byte{nil, {1, 2, 4}, {3, 2, 9}}, []bool{false, true, true})
		if !same(got, [][]byte{{2, 0, 13}, {1, 2, 4}, {3, 2, 9}}) {
			t.Errorf("Rebuild(%+v): %v", x, got)
		}
	}
}

// Whichever shards are lost, of a few.
func TestRebuildOfWhicheverShards(t *testing.T) {
	t.Parallel()
	r := numbers()
	params(func(x api.Params) {
		if x.K > 4 {
			return
		}
		whole := encoded(t, r, x, 40)
		for mask := range 1 << (x.K + x.M) {
			have := masked(x.K+x.M, mask)
			if bits.OnesCount(uint(mask)) < x.K {
				refused(t, "too few", x, spared(whole, have), have, api.ErrFew)
				continue
			}
			told(t, "enough", x, spared(whole, have), have, whole)
		}
	})
}

// Of each length, with some shards lost by chance: from none to as many as may be.
func TestRebuildOfEachLength(t *testing.T) {
	t.Parallel()
	r := numbers()
	params(func(x api.Params) {
		for _, n := range lengths(x) {
			whole := slowWhole(t, x, someShards(r, x.K, n))
			for lost := range x.M + 1 {
				have := there(x.K+x.M, r.Perm(x.K + x.M)[lost:]...)
				told(t, "a length", x, spared(whole, have), have, whole)
			}
		}
	})
}

// A shard may be longer than any that an object is split into.
func TestRebuildOfLongShards(t *testing.T) {
	t.Parallel()
	r := numbers()
	for p := 1; p <= 6; p++ {
		x := api.Params{P: p, K: 2, M: mostM()[p]}
		for _, n := range []int{4096, 4098, 65536, 100000} {
			data := someShards(r, x.K, n)
			parity, e := codec.Parity(x, data)
			if e != api.OK {
				t.Fatalf("Parity(%+v): %v", x, e)
			}
			have := there(x.K+x.M, r.Perm(x.K + x.M)[x.M:]...)
			whole := slices.Concat(data, parity)
			told(t, "long", x, spared(whole, have), have, whole)
		}
	}
}

// No bytes are K + M shards of none, whether the shards are nil or empty.
func TestRebuildOfNoBytes(t *testing.T) {
	t.Parallel()
	r := numbers()
	params(func(x api.Params) {
		count := x.K + x.M
		mixed := make([][]byte, count)
		mixed[x.K-1], mixed[x.K] = []byte{}, []byte{}
		for _, shards := range [][][]byte{make([][]byte, count), slices.Repeat([][]byte{{}}, count), mixed} {
			told(t, "no bytes", x, shards, allThere(x), make([][]byte, count))
			told(t, "no bytes", x, shards, there(count, r.Perm(count)[x.M:]...), make([][]byte, count))
			refused(t, "no bytes, and none there", x, shards, make([]bool, count), api.ErrFew)
		}
	})
}

// Just K are enough, K - 1 are too few, and so are none; all are what they are.
func TestRebuildOfJustEnough(t *testing.T) {
	t.Parallel()
	r := numbers()
	params(func(x api.Params) {
		count := x.K + x.M
		whole := encoded(t, r, x, 20)
		for range 4 {
			order := r.Perm(count)
			told(t, "K", x, whole, there(count, order[:x.K]...), whole)
			refused(t, "K - 1", x, whole, there(count, order[:x.K-1]...), api.ErrFew)
		}
		told(t, "all", x, whole, allThere(x), whole)
		refused(t, "none", x, whole, make([]bool, count), api.ErrFew)
		refused(t, "nothing at all", x, make([][]byte, count), make([]bool, count), api.ErrFew)
		refused(t, "the first K - 1", x, whole, there(count, upTo(x.K-1)...), api.ErrFew)
	})
}

// upTo is the numbers from 0 to below n.
func upTo(n int) []int {
	list := make([]int, n)
	for i := range list {
		list[i] = i
	}
	return list
}

// Of more than K those are asked that are first: shards behind these may be any, and stay as they are.
func TestFirstOfMoreAreAsked(t *testing.T) {
	t.Parallel()
	r := numbers()
	params(func(x api.Params) {
		count := x.K + x.M
		whole := encoded(t, r, x, 20)
		n := len(whole[0])
		for more := 1; more <= x.M; more++ {
			have := there(count, r.Perm(count)[:x.K+more]...)
			places := placesOf(have)
			given := spared(whole, have)
			want := cloned(whole)
			for _, place := range places[x.K:] {
				given[place] = some(r, n)
				want[place] = given[place]
			}
			told(t, "spoilt behind the first", x, given, have, want)
		}
	})
}

// Any K shards are what was encoded of some data: what is told of them by chance has just these in their places,
// and parity of the data in those of the others.
func TestAnyShardsAreOfSomeData(t *testing.T) {
	t.Parallel()
	r := numbers()
	params(func(x api.Params) {
		count := x.K + x.M
		for range 3 {
			have := there(count, r.Perm(count)[:x.K+r.Intn(x.M+1)]...)
			given := spared(someShards(r, count, 6), have)
			data := dataOf(t, x, given, have)
			if len(data) != x.K {
				t.Fatalf("Data(%+v) of %v: %d shards", x, placesOf(have), len(data))
			}
			want := slowWhole(t, x, data)
			for i, place := range placesOf(have) {
				if i < x.K && string(want[place]) != string(given[place]) {
					t.Fatalf("Data(%+v) of %v: %v, of which the shard %d is another", x, placesOf(have), data, place)
				}
				want[place] = given[place]
			}
			if got := rebuilt(t, x, given, have); !same(got, want) {
				t.Fatalf("Rebuild(%+v) of %v: %v, not %v", x, placesOf(have), got, want)
			}
		}
	})
}

// What stands in the place of a shard that isn't there is not asked, of whatever length it is.
func TestWhatIsNotThereIsNotAsked(t *testing.T) {
	t.Parallel()
	r := numbers()
	params(func(x api.Params) {
		count := x.K + x.M
		whole := encoded(t, r, x, 20)
		n := len(whole[0])
		for _, length := range []int{-1, 0, 1, n - 1, n, n + 1, 2 * n, 1001} {
			have := there(count, r.Perm(count)[:x.K+r.Intn(x.M)]...)
			given := slices.Clone(whole)
			for place, ok := range have {
				if ok {
					continue
				}
				given[place] = nil
				if length >= 0 {
					given[place] = some(r, length)
				}
			}
			told(t, "something else", x, given, have, whole)
		}
		// All are of unlike lengths but those that are there.
		have := there(count, r.Perm(count)[:x.K]...)
		given := slices.Clone(whole)
		for place, ok := range have {
			if !ok {
				given[place] = some(r, n+1+place)
			}
		}
		told(t, "unlike lengths", x, given, have, whole)
	})
}

func TestRebuildOfWrongParams(t *testing.T) {
	t.Parallel()
	for _, x := range wrong() {
		for _, count := range []int{0, 1, 2, 3, 4, 9, 11, 12, 13} {
			for _, have := range [][]bool{make([]bool, count), masked(count, math.MaxInt)} {
				refused(t, "params", x, make([][]byte, count), have, api.ErrArg)
				refused(t, "params", x, slices.Repeat([][]byte{{1, 2}}, count), have, api.ErrArg)
			}
		}
	}
}

// Shards, or have, of another number are named ahead of there being too few, and of their lengths.
func TestRebuildOfAnotherNumberOfShards(t *testing.T) {
	t.Parallel()
	params(func(x api.Params) {
		count := x.K + x.M
		for _, shards := range []int{0, x.K - 1, x.K, count - 1, count, count + 1, 2 * count, 64} {
			for _, have := range []int{0, x.K - 1, x.K, count - 1, count, count + 1, 2 * count, 64} {
				if shards == count && have == count {
					continue
				}
				for _, mask := range []int{0, 1, math.MaxInt} {
					refused(t, "number", x, make([][]byte, shards), masked(have, mask), api.ErrArg)
					refused(t, "number", x, slices.Repeat([][]byte{{1, 2}}, shards), masked(have, mask), api.ErrArg)
				}
				unlike := make([][]byte, shards)
				for i := range unlike {
					unlike[i] = make([]byte, i)
				}
				refused(t, "number, unlike", x, unlike, masked(have, math.MaxInt), api.ErrArg)
			}
		}
		refused(t, "nil", x, nil, nil, api.ErrArg)
		refused(t, "no shards", x, nil, allThere(x), api.ErrArg)
		refused(t, "no have", x, make([][]byte, count), nil, api.ErrArg)
		// Even if what is one too many is not there, or has no bytes.
		refused(t, "one behind", x, make([][]byte, count+1), append(allThere(x), false), api.ErrArg)
		refused(t, "one more named", x, make([][]byte, count), append(allThere(x), false), api.ErrArg)
		refused(t, "nil behind", x, append(slices.Repeat([][]byte{{1, 2}}, count), nil), allThere(x), api.ErrArg)
	})
}

// Fewer than K are named ahead of their lengths.
func TestTooFewOfUnlikeLengths(t *testing.T) {
	t.Parallel()
	r := numbers()
	params(func(x api.Params) {
		count := x.K + x.M
		unlike := make([][]byte, count)
		for i := range unlike {
			unlike[i] = make([]byte, i+1)
		}
		odd := slices.Repeat([][]byte{{1, 2, 3}}, count)
		for few := range x.K {
			have := there(count, r.Perm(count)[:few]...)
			refused(t, "few, unlike", x, unlike, have, api.ErrFew)
			refused(t, "few, odd", x, odd, have, api.ErrFew)
		}
	})
}

// One shard of another length, in each place in turn, is refused where it is there, beyond the first K too.
func TestRebuildOfUnlikeLengths(t *testing.T) {
	t.Parallel()
	r := numbers()
	params(func(x api.Params) {
		count := x.K + x.M
		whole := slowWhole(t, x, someShards(r, x.K, 4))
		for place := range count {
			for _, n := range []int{0, 2, 3, 5, 6, 8} {
				given := slices.Clone(whole)
				given[place] = make([]byte, n)
				refused(t, "unlike, of all", x, given, allThere(x), api.ErrArg)
				have := allThere(x)
				have[place] = false
				if n == 5 {
					told(t, "unlike, but not there", x, given, have, whole)
				}
				if x.K == 1 {
					continue
				}
				others := slices.DeleteFunc(r.Perm(count), func(other int) bool { return other == place })
				refused(t, "unlike, of K", x, given, there(count, append(others[:x.K-1], place)...), api.ErrArg)
			}
			given := make([][]byte, count)
			given[place] = []byte{0, 0}
			refused(t, "one with bytes", x, given, allThere(x), api.ErrArg)
		}
		// As many bytes in all, and as many whole numbers.
		given := slices.Clone(whole)
		given[count-2], given[count-1] = given[count-2][:2], append(slices.Clone(given[count-1]), 0, 0)
		refused(t, "as many in all", x, given, allThere(x), api.ErrArg)
	})
}

// An odd number of bytes is told in a field of 8 bits, and refused in one of 16, even if all data shards are there.
func TestRebuildOfAnOddNumberOfBytes(t *testing.T) {
	t.Parallel()
	r := numbers()
	params(func(x api.Params) {
		count := x.K + x.M
		for _, n := range []int{1, 3, 7, 1001} {
			for _, have := range [][]bool{allThere(x), there(count, upTo(x.K)...), there(count, r.Perm(count)[:x.K]...)} {
				if x.P == api.JC {
					refused(t, "odd", x, someShards(r, count, n), have, api.ErrArg)
					refused(t, "odd noughts", x, slices.Repeat([][]byte{make([]byte, n)}, count), have, api.ErrArg)
					continue
				}
				whole := slowWhole(t, x, someShards(r, x.K, n))
				told(t, "odd", x, whole, have, whole)
			}
		}
		// The odd ones are not there.
		whole := slowWhole(t, x, someShards(r, x.K, 2))
		have := there(count, r.Perm(count)[:x.K]...)
		given := slices.Repeat([][]byte{{1, 2, 3}}, count)
		for _, place := range placesOf(have) {
			given[place] = whole[place]
		}
		told(t, "odd, but not there", x, given, have, whole)
	})
}
