package recon

import (
	"bytes"
	"math"
	"slices"
	"sync"
	"testing"

	"gambrel/api"
	"gambrel/codec"
	"gambrel/layout"
)

// Of what was encoded any K shards tell all others, in each profile.
func TestAnyShardsTellAllOthers(t *testing.T) {
	t.Parallel()
	r := numbers()
	params(func(x api.Params) {
		whole := encoded(t, r, x, 30)
		choices(x.K+x.M, x.K, func(chosen []int) {
			have := there(x.K+x.M, chosen...)
			if got := rebuilt(t, x, spared(whole, have), have); !same(got, whole) {
				t.Fatalf("Rebuild(%+v) of %v: %q, not %q", x, chosen, got, whole)
			}
		})
	})
}

// An object is told from any K shards, at the edges of what may be encoded.
func TestObjectsAreToldFromAnyShards(t *testing.T) {
	t.Parallel()
	r := numbers()
	params(func(x api.Params) {
		for _, n := range []int{0, 1, 17, 4096} {
			b := some(r, n)
			whole, e := codec.Encode(x, b)
			if e != api.OK {
				t.Fatalf("Encode(%+v) of %d bytes: %v", x, n, e)
			}
			have := there(x.K+x.M, r.Perm(x.K + x.M)[x.M:]...)
			data := dataOf(t, x, spared(whole, have), have)
			if got, e := layout.Join(x, data, n); !bytes.Equal(got, b) || e != api.OK {
				t.Errorf("%+v: of %d bytes the shards %v tell others: %v", x, n, placesOf(have), e)
			}
		}
	})
}

// What is updated is what would have been encoded of the object with another data shard.
func TestUpdatedObjects(t *testing.T) {
	t.Parallel()
	r := numbers()
	params(func(x api.Params) {
		// A whole number of units, so that a data shard may be of any bytes; but of b's layout the first four bytes say how many there are.
		n := 16 * x.K
		if x.P == api.BB {
			n -= 4
		}
		b := some(r, n)
		whole, e := codec.Encode(x, b)
		if e != api.OK || len(whole[0]) != 16 {
			t.Fatalf("Encode(%+v): %v", x, e)
		}
		for i := range x.K {
			data := slices.Clone(whole[:x.K])
			data[i] = some(r, 16)
			if x.P == api.BB && i == 0 {
				copy(data[0], whole[0][:4])
			}
			object, e := layout.Join(x, data, n)
			if e != api.OK {
				t.Fatalf("Join(%+v): %v", x, e)
			}
			want, e := codec.Encode(x, object)
			if got := updated(t, x, whole, i, data[i]); e != api.OK || !same(got, want) || !codec.Verify(x, got) {
				t.Errorf("Update(%+v) of the shard %d: %q, not %q", x, i, got, want)
			}
		}
	})
}

// An update is undone by one more, and of two shards it is all one which is updated first.
func TestUpdatesAreUndone(t *testing.T) {
	t.Parallel()
	r := numbers()
	params(func(x api.Params) {
		shards := someShards(r, x.K+x.M, 8)
		i, j := r.Intn(x.K), r.Intn(x.K)
		a, b := some(r, 8), some(r, 8)
		if got := updated(t, x, updated(t, x, shards, i, a), i, shards[i]); !same(got, shards) {
			t.Errorf("Update(%+v) of the shard %d is not undone", x, i)
		}
		one, two := updated(t, x, updated(t, x, shards, i, a), j, b), updated(t, x, updated(t, x, shards, j, b), i, a)
		if i != j && !same(one, two) {
			t.Errorf("Update(%+v) of the shards %d and %d: %v, and %v", x, i, j, one, two)
		}
	})
}

// room is the shards, with other bytes behind each in the same memory, and other shards behind all in the same list.
func room(shards [][]byte) [][]byte {
	var list [][]byte
	for _, shard := range shards {
		list = append(list, append(slices.Clone(shard), bytes.Repeat([]byte{0xEE}, 24)...)[:len(shard)])
	}
	for range 14 {
		list = append(list, []byte{1, 2, 3})
	}
	return list[:len(shards)]
}

// held is all of the memory of shards, copied.
func held(shards [][]byte) [][]byte {
	var all [][]byte
	for _, shard := range shards[:cap(shards)] {
		all = append(all, slices.Clone(shard[:cap(shard)]))
	}
	return all
}

// stays holds that shards, have and b, and what lies behind them, are what they were when all calls were asked of them.
func stays(t *testing.T, x api.Params, shards [][]byte, have []bool, b []byte) {
	t.Helper()
	have = append(slices.Clone(have), true, false, true)[:len(have)]
	before, beforeHave, beforeB := held(shards), slices.Clone(have[:cap(have)]), slices.Clone(b[:cap(b)])
	for _, y := range []api.Params{x, {P: x.P, K: 9, M: x.M}} {
		for _, count := range []int{0, len(shards) - 1, len(shards), len(shards) + 1} {
			Data(y, shards[:count], have)
			Rebuild(y, shards[:count], have)
			for i := range x.K + 1 {
				Update(y, shards[:count], i, b)
			}
		}
	}
	if !same(held(shards), before) || !slices.Equal(have[:cap(have)], beforeHave) || !bytes.Equal(b[:cap(b)], beforeB) {
		t.Fatalf("%+v: what is handed in, of %d bytes each, is changed", x, len(shards[0]))
	}
}

// What is handed in stays as it is, told or refused.
func TestWhatIsHandedInStays(t *testing.T) {
	t.Parallel()
	r := numbers()
	params(func(x api.Params) {
		count := x.K + x.M
		for _, n := range []int{0, 1, 16} {
			shards, b := room(someShards(r, count, n)), room(someShards(r, 1, n))[0]
			stays(t, x, shards, there(count, r.Perm(count)[x.M:]...), b)
			stays(t, x, shards, there(count, r.Perm(count)[x.M+1:]...), b)
			stays(t, x, shards, allThere(x), shards[0])
		}
		unlike := room(someShards(r, count, 16))
		unlike[count-1] = unlike[count-1][:8]
		stays(t, x, unlike, allThere(x), some(r, 16))
	})
}

// writeOver writes over all of each shard in turn, and the room behind it, and holds that those behind stay as they are.
func writeOver(t *testing.T, x api.Params, got [][]byte) {
	t.Helper()
	want := cloned(got)
	for i, shard := range got {
		for j := range shard[:cap(shard)] {
			shard[:cap(shard)][j] ^= 0xFF
		}
		if !same(got[i+1:], want[i+1:]) {
			t.Fatalf("%+v: shards share memory", x)
		}
	}
	for i := range got[:cap(got)] {
		got[:cap(got)][i] = nil
	}
}

// anew holds that what a call tells is shared with no other shard of it, with what it tells another time, nor with what is handed in.
func anew(t *testing.T, x api.Params, shards [][]byte, b []byte, tell func() [][]byte) {
	t.Helper()
	before, beforeB := held(shards), slices.Clone(b[:cap(b)])
	one, two := tell(), tell()
	want := cloned(two)
	if !same(one, want) {
		t.Fatalf("%+v: another time other shards are told", x)
	}
	writeOver(t, x, one)
	if !same(two, want) || !same(held(shards), before) || !bytes.Equal(b[:cap(b)], beforeB) || !same(tell(), want) {
		t.Fatalf("%+v: what is told is shared", x)
	}
	given := slices.Clone(shards)
	for _, shard := range append(given, b) {
		for i := range shard[:cap(shard)] {
			shard[:cap(shard)][i] ^= 0xFF
		}
	}
	clear(shards)
	if !same(two, want) {
		t.Fatalf("%+v: what is told is the memory of what is handed in", x)
	}
}

// ways is each call, of the same shards.
func ways(t *testing.T, x api.Params, shards [][]byte, have []bool, i int, b []byte) []func() [][]byte {
	return []func() [][]byte{
		func() [][]byte { return dataOf(t, x, shards, have) },
		func() [][]byte { return rebuilt(t, x, shards, have) },
		func() [][]byte { return updated(t, x, shards, i, b) },
	}
}

// What is told is made anew: of shards that are there, too.
func TestWhatIsToldIsMadeAnew(t *testing.T) {
	t.Parallel()
	r := numbers()
	params(func(x api.Params) {
		count := x.K + x.M
		for _, have := range [][]bool{allThere(x), there(count, upTo(x.K)...), there(count, r.Perm(count)[x.M:]...)} {
			for way := range 3 {
				shards, b := room(someShards(r, count, 16)), room(someShards(r, 1, 16))[0]
				anew(t, x, shards, b, ways(t, x, shards, have, r.Intn(x.K), b)[way])
			}
		}
	})
}

// Shards that are handed in may all be one and the same: those that are told are not, and the one stays as it is.
func TestOneShardManyTimes(t *testing.T) {
	t.Parallel()
	r := numbers()
	params(func(x api.Params) {
		count := x.K + x.M
		shard := room(someShards(r, 1, 16))[0]
		shards := slices.Repeat([][]byte{shard}, count)
		before := slices.Clone(shard[:cap(shard)])
		apart := cloned(shards)
		for _, have := range [][]bool{allThere(x), there(count, r.Perm(count)[x.M:]...)} {
			i := r.Intn(x.K)
			b := some(r, 16)
			for way, tell := range ways(t, x, shards, have, i, b) {
				want := ways(t, x, apart, have, i, b)[way]()
				got := tell()
				if !same(got, want) {
					t.Fatalf("%+v, %v: of one shard %v is told, not %v", x, have, got, want)
				}
				writeOver(t, x, got)
			}
			// The new data shard may be that one, too.
			got := updated(t, x, shards, i, shard)
			if !same(got, shards) {
				t.Fatalf("Update(%+v) of one shard by itself: %v", x, got)
			}
			writeOver(t, x, got)
		}
		if !bytes.Equal(shard[:cap(shard)], before) {
			t.Fatalf("%+v: the shard that is handed in is changed", x)
		}
	})
}

// The shards may stand in one piece of memory, each ahead of the next, and the new one may reach over two of them.
func TestShardsOfOnePiece(t *testing.T) {
	t.Parallel()
	r := numbers()
	params(func(x api.Params) {
		count := x.K + x.M
		piece := some(r, 16*count)
		before := slices.Clone(piece)
		var shards [][]byte
		for at := 0; at < len(piece); at += 16 {
			shards = append(shards, piece[at:at+16])
		}
		apart := cloned(shards)
		have := there(count, r.Perm(count)[x.M:]...)
		i, b := r.Intn(x.K), piece[8:24]
		want := ways(t, x, apart, have, i, slices.Clone(b))
		for way, tell := range ways(t, x, shards, have, i, b) {
			if got := tell(); !same(got, want[way]()) || !bytes.Equal(piece, before) {
				t.Fatalf("%+v: of one piece %v is told", x, got)
			}
		}
	})
}

// Nothing hangs on who else asks.
func TestManyAtOnce(t *testing.T) {
	t.Parallel()
	r := numbers()
	all := someShards(r, 12, 16)
	var group sync.WaitGroup
	for range 4 {
		group.Go(func() {
			params(func(x api.Params) {
				shards := all[:x.K+x.M]
				have := masked(len(shards), math.MaxInt-1)
				data, e := Data(x, shards, have)
				whole, f := Rebuild(x, shards, have)
				other, g := Update(x, whole, 0, shards[0])
				if e != api.OK || f != api.OK || g != api.OK || !same(data, whole[:x.K]) || !same(other[:x.K], shards[:x.K]) {
					t.Errorf("%+v: %v, %v, %v", x, e, f, g)
				}
			})
		})
	}
	group.Wait()
}
