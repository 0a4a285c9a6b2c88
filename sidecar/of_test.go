package sidecar

import (
	"hash/crc32"
	"math"
	"math/rand"
	"reflect"
	"slices"
	"testing"

	"gambrel/api"
	"gambrel/codec"
)

// object is n bytes by chance.
func object(r *rand.Rand, n int) []byte {
	b := make([]byte, n)
	r.Read(b)
	return b
}

// wantOf holds what Of tells of x and b.
func wantOf(t *testing.T, x api.Params, b []byte, want Meta) {
	t.Helper()
	m, e := Of(x, b)
	if e != api.OK || !reflect.DeepEqual(m, want) {
		t.Errorf("Of(%+v) of %d bytes: %+v, %v; not %+v", x, len(b), m, e, want)
	}
}

// The shards are worked out by hand, and their sums elsewhere.
func TestOfAsItIsWritten(t *testing.T) {
	// The shards a, b, g and d.
	x := api.Params{P: api.KP, K: 2, M: 2}
	wantOf(t, x, []byte("ab"), Meta{x, 2, []uint32{0xE8B7BE43, 0x71BEEFF9, 0x01D41B76, 0x98DD4ACC}})
	// One data shard, and the same as parity of Jerasure's and of ISA-L's first row: with 0s to 8 bytes and to 16.
	x = api.Params{P: api.JV, K: 1, M: 1}
	wantOf(t, x, []byte("abcde"), Meta{x, 5, []uint32{0x8B6089C8, 0x8B6089C8}})
	wantOf(t, x, nil, Meta{x, 0, []uint32{0x6522DF69, 0x6522DF69}})
	x = api.Params{P: api.IR, K: 1, M: 1}
	wantOf(t, x, []byte("abcde"), Meta{x, 5, []uint32{0x1F2DA213, 0x1F2DA213}})
	wantOf(t, x, []byte{}, Meta{x, 0, []uint32{0xECBB4B55, 0xECBB4B55}})
	// Of one data shard all parity is the same: ahead of it are four bytes that say the size, and it doesn't stand in the sidecar.
	x = api.Params{P: api.BB, K: 1, M: 3}
	wantOf(t, x, []byte("abcde"), Meta{x, 0, slices.Repeat([]uint32{0xF561AA65}, 4)})
	wantOf(t, x, nil, Meta{x, 0, slices.Repeat([]uint32{0x2144DF1C}, 4)})
	x = api.Params{P: api.KP, K: 1, M: 4}
	wantOf(t, x, []byte("abc"), Meta{x, 3, slices.Repeat([]uint32{0x352441C2}, 5)})
	// Shards of nothing are one 0 each.
	x = api.Params{P: api.KP, K: 8, M: 4}
	wantOf(t, x, nil, Meta{x, 0, slices.Repeat([]uint32{0xD202EF8D}, 12)})
	// Of 16 bits, the number 0 alone.
	x = api.Params{P: api.JC, K: 3, M: 2}
	wantOf(t, x, make([]byte, 24), Meta{x, 24, slices.Repeat([]uint32{0x6522DF69}, 5)})
}

func TestOfByTheShards(t *testing.T) {
	r := numbers()
	params(func(x api.Params) {
		for _, n := range []int{0, 1, 5, 64, 100, 4095, 4096} {
			b := object(r, n)
			shards, e := codec.Encode(x, b)
			if e != api.OK {
				t.Fatalf("Encode(%+v) of %d bytes: %v", x, n, e)
			}
			want := Meta{X: x, Size: n}
			if !forms()[x.P].sized {
				want.Size = 0
			}
			for _, shard := range shards {
				want.Sums = append(want.Sums, crc32.ChecksumIEEE(shard))
			}
			wantOf(t, x, b, want)
			wantTaken(t, put(t, want), want)
		}
	})
}

// What is encoded may be, with nothing else asked.
func TestWhatOfTellsMayBe(t *testing.T) {
	r := numbers()
	for n := range 300 {
		x := api.Params{P: 1 + n%6, K: 1 + r.Intn(8), M: 1 + r.Intn(3)}
		m, e := Of(x, object(r, r.Intn(4097)))
		if e != api.OK || !May(m) {
			t.Errorf("Of(%+v): %+v, %v", x, m, e)
		}
	}
}

// refusedOf holds that Of tells Encode's error, and nothing else.
func refusedOf(t *testing.T, x api.Params, b []byte, want api.Errno) {
	t.Helper()
	if _, e := codec.Encode(x, b); e != want {
		t.Errorf("Encode(%+v) of %d bytes: %v, not %v", x, len(b), e, want)
	}
	if m, e := Of(x, b); e != want || m.X != (api.Params{}) || m.Size != 0 || len(m.Sums) != 0 {
		t.Errorf("Of(%+v) of %d bytes: %+v, %v, not %v", x, len(b), m, e, want)
	}
}

func TestOfTellsErrorsOfEncode(t *testing.T) {
	for _, n := range []int{0, 1, 4096, 4097} {
		b := make([]byte, n)
		for p := api.JV; p <= api.KP; p++ {
			for _, x := range []api.Params{{P: p}, {P: p, K: 0, M: 1}, {P: p, K: 1, M: 0}, {P: p, K: 9, M: 1}, {P: p, K: 1, M: forms()[p].maxM + 1}, {P: p, K: -1, M: 1}, {P: p, K: 1, M: -1}, {P: p, K: math.MaxInt, M: math.MaxInt}, {P: p, K: math.MinInt, M: math.MinInt}} {
				refusedOf(t, x, b, api.ErrArg)
			}
		}
		for _, p := range []int{0, -1, 7, math.MaxInt, math.MinInt} {
			refusedOf(t, api.Params{P: p, K: 1, M: 1}, b, api.ErrArg)
		}
		refusedOf(t, api.Params{}, b, api.ErrArg)
	}
	refusedOf(t, api.Params{}, nil, api.ErrArg)
	params(func(x api.Params) {
		for _, n := range []int{4097, 5000, 65537} {
			refusedOf(t, x, make([]byte, n), api.ErrBig)
		}
	})
}

// wantSame holds what Same tells, of both ways round.
func wantSame(t *testing.T, what string, a, b Meta, want bool) {
	t.Helper()
	if Same(a, b) != want || Same(b, a) != want {
		t.Errorf("%s: Same(%+v, %+v): %v, and the other way round %v", what, a, b, Same(a, b), Same(b, a))
	}
}

// like is m, sharing no memory with it.
func like(m Meta) Meta {
	m.Sums = slices.Clone(m.Sums)
	return m
}

func TestSame(t *testing.T) {
	r := numbers()
	params(func(x api.Params) {
		m := some(r, x)
		wantSame(t, "itself", m, m, true)
		wantSame(t, "alike", m, like(m), true)
		others := map[string]Meta{
			"P":         {api.Params{P: x.P + 1, K: x.K, M: x.M}, m.Size, m.Sums},
			"K":         {api.Params{P: x.P, K: x.K + 1, M: x.M}, m.Size, m.Sums},
			"M":         {api.Params{P: x.P, K: x.K, M: x.M + 1}, m.Size, m.Sums},
			"K and M":   {api.Params{P: x.P, K: x.K - 1, M: x.M + 1}, m.Size, m.Sums},
			"Size":      {x, m.Size + 1, m.Sums},
			"a size":    {x, -m.Size - 1, m.Sums},
			"fewer":     {x, m.Size, m.Sums[:len(m.Sums)-1]},
			"fewer yet": {x, m.Size, m.Sums[1:]},
			"more":      {x, m.Size, append(slices.Clone(m.Sums), 0)},
			"none":      {x, m.Size, nil},
		}
		for what, other := range others {
			wantSame(t, what, m, other, false)
			wantSame(t, what+" alike", other, like(other), true)
		}
		for i := range m.Sums {
			for bit := range 32 {
				other := like(m)
				other.Sums[i] ^= 1 << bit
				wantSame(t, "one sum", m, other, false)
			}
		}
	})
}

// Sums in another order are not the same.
func TestSameAsksTheOrder(t *testing.T) {
	x := api.Params{P: api.KP, K: 2, M: 1}
	one := Meta{x, 3, []uint32{1, 2, 3}}
	wantSame(t, "another order", one, Meta{x, 3, []uint32{3, 2, 1}}, false)
	wantSame(t, "another order", one, Meta{x, 3, []uint32{2, 1, 3}}, false)
	wantSame(t, "this order", one, Meta{x, 3, []uint32{1, 2, 3}}, true)
}

// Those that may not be are the same or aren't, as others are; no sums are the same, nil or empty.
func TestSameOfWhatMayNotBe(t *testing.T) {
	wantSame(t, "zero", Meta{}, Meta{}, true)
	wantSame(t, "nil and empty", Meta{}, Meta{Sums: []uint32{}}, true)
	wantSame(t, "empty", Meta{Sums: make([]uint32, 0, 5)}, Meta{Sums: []uint32{}}, true)
	wantSame(t, "nil and a 0", Meta{}, Meta{Sums: []uint32{0}}, false)
	wantSame(t, "a 0 and two", Meta{Sums: []uint32{0}}, Meta{Sums: []uint32{0, 0}}, false)
	far := Meta{api.Params{P: math.MaxInt, K: math.MinInt, M: -1}, math.MinInt, []uint32{7}}
	wantSame(t, "far", far, like(far), true)
	wantSame(t, "far and zero", far, Meta{}, false)
	wantSame(t, "a size", Meta{Size: -1}, Meta{Size: -1}, true)
	wantSame(t, "sizes", Meta{Size: 1 << 32}, Meta{}, false)
	wantSame(t, "sums that are in excess", Meta{Sums: make([]uint32, 1000)}, Meta{Sums: make([]uint32, 1000)}, true)
}

// Nothing hangs on memory that is shared, or on the room behind.
func TestSameOfSharedSums(t *testing.T) {
	sums := []uint32{1, 1, 1, 1, 2}
	x := api.Params{P: api.BB, K: 2, M: 1}
	wantSame(t, "moved by one", Meta{x, 0, sums[:3]}, Meta{x, 0, sums[1:4]}, true)
	wantSame(t, "moved by two", Meta{x, 0, sums[:3]}, Meta{x, 0, sums[2:5]}, false)
	wantSame(t, "without room", Meta{x, 0, sums[:3:3]}, Meta{x, 0, sums[:3]}, true)
}
