package codec

import (
	"bytes"
	"slices"
	"sync"
	"testing"

	"gambrel/api"
)

// added is two lists of shards, added byte by byte.
func added(a, b [][]byte) [][]byte {
	sum := cloned(a)
	for i, shard := range b {
		for j, part := range shard {
			sum[i][j] ^= part
		}
	}
	return sum
}

// Shards that are added are parity of these added.
func TestParityOfSums(t *testing.T) {
	r := numbers()
	params(func(x api.Params) {
		for _, n := range lengths(x) {
			a, b := someShards(r, x.K, n), someShards(r, x.K, n)
			want := added(parityOf(t, x, a), parityOf(t, x, b))
			if got := parityOf(t, x, added(a, b)); !same(got, want) {
				t.Errorf("Parity(%+v) of a sum, of %d bytes each: %v, not %v", x, n, got, want)
			}
			verified(t, "a sum", x, append(added(a, b), want...), true)
		}
	})
}

// places are some of n: the first one, one amid them, and the last one.
func places(n int) []int {
	list := []int{0, n / 2, n - 1}
	slices.Sort(list)
	return slices.Compact(list)
}

// What is encoded is verified, and with one byte otherwise, whichever it is, it isn't.
func TestOneByteOtherwise(t *testing.T) {
	r := numbers()
	params(func(x api.Params) {
		sizes := []int{0, 100}
		if x.M == mostM()[x.P] {
			sizes = append(sizes, 4096)
		}
		for _, n := range sizes {
			shards := encoded(t, x, some(r, n))
			for _, shard := range shards {
				for _, place := range places(len(shard)) {
					with := byte(1 << r.Intn(8))
					shard[place] ^= with
					verified(t, "one byte otherwise", x, shards, false)
					shard[place] ^= with
				}
			}
			verified(t, "as it was", x, shards, true)
		}
	})
}

// Every byte of every shard, and every bit of it.
func TestEveryByteOtherwise(t *testing.T) {
	r := numbers()
	for p := 1; p <= 6; p++ {
		x := api.Params{P: p, K: 2, M: 2}
		shards := encoded(t, x, some(r, 9))
		for _, shard := range shards {
			for place := range shard {
				for bit := range 8 {
					shard[place] ^= 1 << bit
					verified(t, "one bit otherwise", x, shards, false)
					shard[place] ^= 1 << bit
				}
				was := shard[place]
				shard[place] = ^was
				verified(t, "all bits otherwise", x, shards, false)
				shard[place] = was
			}
		}
		verified(t, "as it was", x, shards, true)
	}
}

// room is the shards, with other bytes behind each in the same memory, and other shards behind all in the same list.
func room(shards [][]byte) [][]byte {
	var list [][]byte
	for _, shard := range shards {
		list = append(list, append(slices.Clone(shard), bytes.Repeat([]byte{0xEE}, 24)...)[:len(shard)])
	}
	for range 14 {
		list = append(list, []byte{1, 2, 3})
	}
	return list[:len(shards)]
}

// held is all of the memory of shards, copied.
func held(shards [][]byte) [][]byte {
	var all [][]byte
	for _, shard := range shards[:cap(shards)] {
		all = append(all, slices.Clone(shard[:cap(shard)]))
	}
	return all
}

// stays holds that shards, and what lies behind them, are what they were when Parity and Verify were asked of so many of them as there may be.
func stays(t *testing.T, x api.Params, shards [][]byte) {
	t.Helper()
	before := held(shards)
	for count := range len(shards) + 2 {
		Parity(x, shards[:count])
		Verify(x, shards[:count])
	}
	Parity(api.Params{P: x.P, K: 9, M: x.M}, shards)
	Verify(api.Params{P: x.P, K: 9, M: x.M}, shards)
	if !same(held(shards), before) {
		t.Fatalf("%+v: what is handed in, of %d bytes each, is changed", x, len(shards[0]))
	}
}

// What is handed in stays as it is, verified, not verified, or refused.
func TestShardsHandedInStay(t *testing.T) {
	r := numbers()
	params(func(x api.Params) {
		for _, n := range []int{0, 1, 16} {
			stays(t, x, room(someShards(r, x.K+x.M, n)))
		}
		data := someShards(r, x.K, 16)
		right := room(slices.Concat(data, slowParity(t, x, data)))
		stays(t, x, right)
		verified(t, "with room", x, right, true)
	})
}

func TestObjectsHandedInStay(t *testing.T) {
	r := numbers()
	params(func(x api.Params) {
		for _, n := range []int{0, 1, 5, 16, 100, 4096, 4097} {
			b := room([][]byte{some(r, n)})[0]
			before := slices.Clone(b[:cap(b)])
			Encode(x, b)
			Encode(api.Params{P: x.P, K: 0, M: x.M}, b)
			if !bytes.Equal(b[:cap(b)], before) {
				t.Errorf("Encode(%+v) changes what it is given, of %d bytes", x, n)
			}
		}
	})
}

// writeOver writes over all of each shard in turn, and the room behind it, and holds that those behind stay as they are.
func writeOver(t *testing.T, x api.Params, got [][]byte) {
	t.Helper()
	want := cloned(got)
	for i, shard := range got {
		for j := range shard[:cap(shard)] {
			shard[:cap(shard)][j] ^= 0xFF
		}
		if !same(got[i+1:], want[i+1:]) {
			t.Fatalf("%+v: shards share memory", x)
		}
	}
	for i := range got[:cap(got)] {
		got[:cap(got)][i] = nil
	}
}

// Parity shares nothing with the data, nor with one another, nor with that of another call.
func TestParityIsMadeAnew(t *testing.T) {
	r := numbers()
	params(func(x api.Params) {
		for _, n := range []int{2, 16, 1000} {
			data := room(someShards(r, x.K, n))
			before := held(data)
			want := slowParity(t, x, data)
			one, two := parityOf(t, x, data), parityOf(t, x, data)
			writeOver(t, x, one)
			if !same(two, want) || !same(held(data), before) || !same(parityOf(t, x, data), want) {
				t.Fatalf("Parity(%+v) of %d bytes each is shared", x, n)
			}
			for _, shard := range data {
				clear(shard[:cap(shard)])
			}
			if !same(two, want) {
				t.Fatalf("Parity(%+v) of %d bytes each is the data's own memory", x, n)
			}
		}
	})
}

// So do shards of an object.
func TestEncodeIsMadeAnew(t *testing.T) {
	r := numbers()
	params(func(x api.Params) {
		for _, n := range []int{0, 1, 16, 100, 128, 4096} {
			b := room([][]byte{some(r, n)})[0]
			before := slices.Clone(b[:cap(b)])
			one, two := encoded(t, x, b), encoded(t, x, b)
			want := cloned(two)
			writeOver(t, x, one)
			if !same(two, want) || !bytes.Equal(b[:cap(b)], before) || !same(encoded(t, x, b), want) {
				t.Fatalf("Encode(%+v) of %d bytes is shared", x, n)
			}
			clear(b[:cap(b)])
			if !same(two, want) {
				t.Fatalf("Encode(%+v) of %d bytes is the object's own memory", x, n)
			}
		}
	})
}

// Nothing hangs on the memory in which shards stand: they may all be one.
func TestOneShardManyTimes(t *testing.T) {
	r := numbers()
	params(func(x api.Params) {
		shard := some(r, 16)
		data := slices.Repeat([][]byte{shard}, x.K)
		want := slowParity(t, x, data)
		if got := parityOf(t, x, data); !same(got, want) {
			t.Errorf("Parity(%+v) of one shard: %v, not %v", x, got, want)
		}
		verified(t, "one shard", x, slices.Concat(data, want), true)
	})
	x := api.Params{P: api.IR, K: 1, M: 1}
	shard := []byte{1, 2, 3}
	verified(t, "itself", x, [][]byte{shard, shard}, true)
}

// Nothing hangs on who else asks.
func TestManyAtOnce(t *testing.T) {
	r := numbers()
	b := some(r, 100)
	data := someShards(r, 8, 16)
	var group sync.WaitGroup
	for range 4 {
		group.Go(func() {
			params(func(x api.Params) {
				shards, e := Encode(x, b)
				parity, f := Parity(x, data[:x.K])
				if e != api.OK || f != api.OK || !Verify(x, shards) || !Verify(x, slices.Concat(data[:x.K], parity)) {
					t.Errorf("%+v: %v, %v", x, e, f)
				}
			})
		})
	}
	group.Wait()
}
