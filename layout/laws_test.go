package layout

import (
	"bytes"
	"slices"
	"sync"
	"testing"

	"gambrel/api"
)

// kinds are objects of n bytes: none is 0, all are, the last half is, and any.
func kinds(n int) [][]byte {
	r := numbers()
	half, mixed := object(n), make([]byte, n)
	clear(half[n/2:])
	r.Read(mixed)
	return [][]byte{object(n), make([]byte, n), half, mixed, bytes.Repeat([]byte{255}, n)}
}

// thereAndBack holds that what is split is joined.
func thereAndBack(t *testing.T, x api.Params, b []byte) {
	t.Helper()
	data := split(t, x, b)
	if !same(data, shardsOf(x, b)) {
		t.Fatalf("Split(%+v, %q): %q", x, b, data)
	}
	if got, e := Join(x, data, len(b)); !bytes.Equal(got, b) || e != api.OK {
		t.Fatalf("Join(%+v) of the shards of %q: %q, %v", x, b, got, e)
	}
}

func TestWhatIsSplitIsJoined(t *testing.T) {
	each(func(x api.Params) {
		for n := 0; n <= 300; n++ {
			for _, b := range kinds(n) {
				thereAndBack(t, x, b)
			}
		}
	})
	params(func(x api.Params) {
		for _, n := range append(edges(x), 4096) {
			for _, b := range kinds(n) {
				thereAndBack(t, x, b)
			}
		}
	})
}

// Shards of unlike profiles are the same, if their layouts are, and K; and of unlike M.
func TestProfilesOfOneLayout(t *testing.T) {
	for k := 1; k <= 8; k++ {
		for _, n := range []int{0, 1, 5, 7, 8, 9, 15, 16, 17, 64, 100, 128, 129, 300, 4095, 4096} {
			b := object(n)
			for _, group := range [][]int{{api.JV, api.JC}, {api.IR, api.IC}, {api.BB}, {api.KP}} {
				want := split(t, api.Params{P: group[0], K: k, M: 1}, b)
				for _, p := range group {
					for m := 1; m <= written()[p].maxM; m++ {
						x := api.Params{P: p, K: k, M: m}
						if got := split(t, x, b); !same(got, want) {
							t.Errorf("Split(%+v) of %d bytes: %q, not %q", x, n, got, want)
						}
						if got, e := Join(x, want, n); !bytes.Equal(got, b) || e != api.OK {
							t.Errorf("Join(%+v) of another profile's shards: %q, %v", x, got, e)
						}
					}
				}
			}
		}
	}
}

// Of five bytes no layout's shards are another's.
func TestLayoutsAreUnlike(t *testing.T) {
	for k := 1; k <= 8; k++ {
		var seen [][][]byte
		for _, p := range []int{api.JV, api.IR, api.BB, api.KP} {
			got := split(t, api.Params{P: p, K: k, M: 1}, object(5))
			if slices.ContainsFunc(seen, func(other [][]byte) bool { return same(got, other) }) {
				t.Errorf("the shards of %d, of %d data shards, are another's: %q", p, k, got)
			}
			seen = append(seen, got)
		}
	}
}

// behind is the bytes, with other bytes behind them in the same memory.
func behind(b []byte) []byte {
	return append(slices.Clone(b), bytes.Repeat([]byte{0xEE}, 40)...)[:len(b)]
}

// held is all of the memory of shards, copied.
func held(data [][]byte) [][]byte {
	var all [][]byte
	for _, shard := range data[:cap(data)] {
		all = append(all, slices.Clone(shard[:cap(shard)]))
	}
	return all
}

// writeOver writes over all that was told, and the room behind it.
func writeOver(b []byte) {
	for i := range b[:cap(b)] {
		b[:cap(b)][i] ^= 0xFF
	}
}

// What is handed in stays as it is, refused or not.
func TestWhatIsHandedInStays(t *testing.T) {
	each(func(x api.Params) {
		for _, n := range []int{0, 1, 5, 16, 100, 4096, 4097} {
			b := behind(object(n))
			before := slices.Clone(b[:cap(b)])
			Split(x, b)
			if !bytes.Equal(b[:cap(b)], before) {
				t.Errorf("Split(%+v) changes what it is given, of %d bytes", x, n)
			}
		}
		for _, n := range []int{0, 1, 5, 16, 100, 4096} {
			var data [][]byte
			for _, shard := range shardsOf(x, object(n)) {
				data = append(data, behind(shard))
			}
			data = append(data, behind(object(3)))[:x.K]
			before := held(data)
			for _, as := range []int{n, n + 1, n - 1, -1, 4097} {
				Join(x, data, as)
				Join(x, data[:x.K-1], as)
				if !same(held(data), before) {
					t.Fatalf("Join(%+v) changes what it is given, of %d bytes as %d", x, n, as)
				}
			}
		}
	})
}

// Shards share nothing with the object, nor with one another, nor with those of another call.
func TestSplitIsMadeAnew(t *testing.T) {
	each(func(x api.Params) {
		for _, n := range []int{0, 1, 5, 16, 100, 128, 4096} {
			b := behind(object(n))
			one, two := split(t, x, b), split(t, x, b)
			want := shardsOf(x, object(n))
			for i := range one {
				writeOver(one[i])
				if !same(one[i+1:], want[i+1:]) {
					t.Fatalf("Split(%+v) of %d bytes: shards share memory", x, n)
				}
				one[i] = nil
			}
			if !same(two, want) || !bytes.Equal(b, object(n)) || !same(split(t, x, b), want) {
				t.Fatalf("Split(%+v) of %d bytes is shared", x, n)
			}
			writeOver(b)
			if !same(two, want) {
				t.Fatalf("Split(%+v) of %d bytes is the object's own memory", x, n)
			}
		}
	})
}

// The object shares nothing with the shards, nor with that of another call.
func TestJoinIsMadeAnew(t *testing.T) {
	each(func(x api.Params) {
		for _, n := range []int{1, 5, 8, 16, 100, 128, 4096} {
			want := object(n)
			data := shardsOf(x, want)
			one, e := Join(x, data, n)
			two, f := Join(x, data, n)
			if e != api.OK || f != api.OK {
				t.Fatalf("Join(%+v) of %d bytes: %v, %v", x, n, e, f)
			}
			writeOver(one)
			if !bytes.Equal(two, want) || !same(data, shardsOf(x, want)) {
				t.Fatalf("Join(%+v) of %d bytes is shared", x, n)
			}
			joins(t, x, data, n, want)
			for _, shard := range data {
				writeOver(shard)
			}
			if !bytes.Equal(two, want) {
				t.Fatalf("Join(%+v) of %d bytes is the shards' own memory", x, n)
			}
		}
	})
}

// Nothing hangs on the memory in which shards stand: they may all be one.
func TestJoinOfOneShardManyTimes(t *testing.T) {
	each(func(x api.Params) {
		if written()[x.P].ahead != 0 {
			return
		}
		shard := object(16)
		data := slices.Repeat([][]byte{shard}, x.K)
		joins(t, x, data, 16*x.K, bytes.Repeat(shard, x.K))
	})
}

// Nothing hangs on who else asks.
func TestManyAtOnce(t *testing.T) {
	var group sync.WaitGroup
	for range 4 {
		group.Go(func() {
			each(func(x api.Params) {
				b := object(100)
				data, e := Split(x, b)
				got, f := Join(x, data, 100)
				if e != api.OK || f != api.OK || !bytes.Equal(got, b) {
					t.Errorf("%+v: %v, %v", x, e, f)
				}
			})
		})
	}
	group.Wait()
}
