package codec

import (
	"bytes"
	"math"
	"slices"
	"strings"
	"testing"

	"gambrel/api"
	"gambrel/layout"
)

// encoded is Encode where nothing may be refused.
func encoded(t *testing.T, x api.Params, b []byte) [][]byte {
	t.Helper()
	got, e := Encode(x, b)
	if e != api.OK {
		t.Fatalf("Encode(%+v) of %d bytes: %v", x, len(b), e)
	}
	return got
}

// verified holds what Verify tells of shards.
func verified(t *testing.T, what string, x api.Params, shards [][]byte, want bool) {
	t.Helper()
	if got := Verify(x, shards); got != want {
		t.Errorf("%s: Verify(%+v) of %d shards, %.60q: %v", what, x, len(shards), shards, got)
	}
}

// cloned is a copy of shards that shares nothing with them.
func cloned(shards [][]byte) [][]byte {
	all := make([][]byte, len(shards))
	for i, shard := range shards {
		all[i] = slices.Clone(shard)
	}
	return all
}

// sizes are the bytes of objects: the limits, and what fills the shards of each layout or doesn't.
func sizes() []int { return []int{0, 1, 8, 9, 17, 100, 4096} }

// The shards are worked out by hand, by the rows that stand beside them.
func TestEncodeAsItIsWritten(t *testing.T) {
	zeros := strings.Repeat("\x00", 16)
	for _, c := range []struct {
		p, k, m int
		b       string
		want    []string
	}{
		// 1 1
		{api.JV, 2, 1, "abcdefghi", []string{"abcdefgh", "i" + zeros[:7], "\x08bcdefgh"}},
		{api.JV, 1, 1, "", []string{zeros[:8], zeros[:8]}},
		// 1 1, 1 143
		{api.JV, 2, 2, "abcdefghi", []string{"abcdefgh", "i" + zeros[:7], "\x08bcdefgh", "\xb2bcdefgh"}},
		// 0x8805, 0xF006, of one number each
		{api.JC, 1, 2, "\x02", []string{"\x02" + zeros[:7], "\x01" + zeros[:7], "\x07\xf0" + zeros[:6]}},
		// 0x8805 0xF006, 0xF006 0x8805
		{api.JC, 2, 2, "\x01\x00\x00\x00\x00\x00\x00\x00\x02", []string{"\x01" + zeros[:7], "\x02" + zeros[:7], "\x02\x78" + zeros[:6], "\x07\xf0" + zeros[:6]}},
		// 1 1, 1 2
		{api.IR, 2, 2, "abcdefghijklmnop\x80\x01", []string{"abcdefghijklmnop", "\x80\x01" + zeros[:14], "\xe1ccdefghijklmnop", "\x7c`cdefghijklmnop"}},
		// 142 244, 244 142
		{api.IC, 2, 2, "\x01" + zeros[:15] + "\x02", []string{"\x01" + zeros[:15], "\x02" + zeros[:15], "\x7b" + zeros[:15], "\xf5" + zeros[:15]}},
		// 1, 142 of one number each
		{api.IC, 1, 2, "b", []string{"b" + zeros[:15], "b" + zeros[:15], "1" + zeros[:15]}},
		// 3 2, 2 3
		{api.BB, 2, 1, "", []string{zeros[:2], zeros[:2], zeros[:2]}},
		{api.BB, 2, 2, "a", []string{"\x00\x00\x00", "\x01a\x00", "\x02\xc2\x00", "\x03\xa3\x00"}},
		{api.KP, 2, 2, "ab", []string{"a", "b", "g", "d"}},
		{api.KP, 2, 2, "abc", []string{"ab", "c\x00", "\x65\xa6", "\x67\xc4"}},
		{api.KP, 1, 4, "", []string{"\x00", "\x00", "\x00", "\x00", "\x00"}},
	} {
		x := api.Params{P: c.p, K: c.k, M: c.m}
		want := shardsOf(c.want...)
		if got := encoded(t, x, []byte(c.b)); !same(got, want) {
			t.Errorf("Encode(%+v, %q): %q, not %q", x, c.b, got, want)
		}
		verified(t, "as it is written", x, want, true)
	}
}

// layout.Split's shards, and Parity of these behind.
func TestEncodeAtTheEdges(t *testing.T) {
	r := numbers()
	params(func(x api.Params) {
		for _, n := range sizes() {
			b := some(r, n)
			data, e := layout.Split(x, b)
			if e != api.OK {
				t.Fatalf("Split(%+v) of %d bytes: %v", x, n, e)
			}
			got := encoded(t, x, b)
			if len(got) != x.K+x.M || !same(got[:x.K], data) || !same(got[x.K:], slowParity(t, x, data)) || !same(got[x.K:], parityOf(t, x, data)) {
				t.Errorf("Encode(%+v) of %d bytes: %d shards, %.200q", x, n, len(got), got)
			}
			verified(t, "what is encoded", x, got, true)
			if back, e := layout.Join(x, got[:x.K], n); !bytes.Equal(back, b) || e != api.OK {
				t.Errorf("Encode(%+v) of %d bytes is not joined: %v", x, n, e)
			}
		}
	})
}

func TestEncodeOfNil(t *testing.T) {
	params(func(x api.Params) {
		if got, again := encoded(t, x, nil), encoded(t, x, []byte{}); !same(got, again) || len(got) != x.K+x.M {
			t.Errorf("Encode(%+v) of nil: %q, not %q", x, got, again)
		}
	})
}

func TestEncodeOfTooManyBytes(t *testing.T) {
	params(func(x api.Params) {
		for _, n := range []int{4097, 4098, 8192, 65536} {
			if got, e := Encode(x, make([]byte, n)); len(got) != 0 || e != api.ErrBig {
				t.Errorf("Encode(%+v) of %d bytes: %d shards, %v", x, n, len(got), e)
			}
		}
	})
}

// Params that may not be are named ahead of bytes that are too many.
func TestEncodeOfWrongParams(t *testing.T) {
	for _, x := range wrong() {
		for _, n := range []int{0, 1, 5, 4096, 4097} {
			if got, e := Encode(x, make([]byte, n)); len(got) != 0 || e != api.ErrArg {
				t.Errorf("Encode(%+v) of %d bytes: %q, %v, not refused", x, n, got, e)
			}
		}
	}
}

// What is verified need be no object's: of any data shards with their own parity it tells true.
func TestVerifyOfAnyData(t *testing.T) {
	r := numbers()
	params(func(x api.Params) {
		for _, n := range lengths(x) {
			data := someShards(r, x.K, n)
			shards := append(data, slowParity(t, x, data)...)
			verified(t, "any data", x, shards, true)
			// Of few bytes those by chance may be just the right ones.
			other := append(slices.Clone(shards[:x.K]), someShards(r, x.M, n)...)
			verified(t, "any parity", x, other, same(other, shards))
		}
		verified(t, "no bytes", x, make([][]byte, x.K+x.M), true)
		verified(t, "no bytes, not nil", x, slices.Repeat([][]byte{{}}, x.K+x.M), true)
	})
}

// An odd number of bytes has no parity in a field of 16 bits, even if all are 0.
func TestVerifyOfAnOddNumberOfBytes(t *testing.T) {
	params(func(x api.Params) {
		for _, n := range []int{1, 3, 1001} {
			verified(t, "odd noughts", x, slices.Repeat([][]byte{make([]byte, n)}, x.K+x.M), x.P != api.JC)
		}
	})
}

func TestVerifyOfAnotherNumberOfShards(t *testing.T) {
	params(func(x api.Params) {
		verified(t, "nil", x, nil, false)
		verified(t, "none", x, [][]byte{}, false)
		right := encoded(t, x, []byte("abcdefghijk"))
		whole := append(right, cloned(right)...)
		for count := range len(whole) + 1 {
			verified(t, "the first", x, whole[:count], count == x.K+x.M)
		}
		verified(t, "all but the first", x, right[1:], false)
		// With more parity shards of the same data, or fewer.
		for m := 1; m <= mostM()[x.P]; m++ {
			other := encoded(t, api.Params{P: x.P, K: x.K, M: m}, []byte("abcdefghijk"))
			verified(t, "another M", x, other, m == x.M)
		}
		// Noughts are the parity of noughts: just how many there are can be wrong.
		for count := range 30 {
			verified(t, "noughts", x, slices.Repeat([][]byte{{0, 0}}, count), count == x.K+x.M)
			verified(t, "no bytes", x, make([][]byte, count), count == x.K+x.M)
		}
	})
}

// Shards of another length in each place, longer or shorter, with what is missing or too much being 0.
func TestVerifyOfUnlikeLengths(t *testing.T) {
	params(func(x api.Params) {
		for place := range x.K + x.M {
			for _, n := range []int{0, 2, 3, 6} {
				shards := slices.Repeat([][]byte{make([]byte, 4)}, x.K+x.M)
				shards[place] = make([]byte, n)
				verified(t, "one of another length", x, shards, false)
			}
		}
		for _, n := range []int{0, 2, 6} {
			short, long := slices.Repeat([][]byte{make([]byte, 4)}, x.K), slices.Repeat([][]byte{make([]byte, n)}, x.M)
			verified(t, "parity of another length", x, slices.Concat(short, long), false)
		}
		right := encoded(t, x, []byte("abcdefghijk"))
		for place := range right {
			shards := cloned(right)
			shards[place] = append(shards[place], 0)
			verified(t, "a byte more", x, shards, false)
			shards[place] = shards[place][:len(right[place])-1]
			verified(t, "a byte fewer", x, shards, false)
			shards[place] = nil
			verified(t, "nil", x, shards, false)
		}
	})
}

// Of two parity shards or more no two unlike shards may be in each other's place, since two that are otherwise are found.
// With one parity shard it hangs on the row, which may be all 1.
func TestVerifyOfAnotherOrder(t *testing.T) {
	r := numbers()
	params(func(x api.Params) {
		right := encoded(t, x, some(r, 100))
		for i := range right {
			for j := range i {
				shards := slices.Clone(right)
				shards[i], shards[j] = shards[j], shards[i]
				want := same(slowParity(t, x, shards[:x.K]), shards[x.K:])
				if want && x.M > 1 && !bytes.Equal(right[i], right[j]) {
					t.Fatalf("%+v: %d and %d in each other's place are parity", x, i, j)
				}
				verified(t, "another order", x, shards, want)
			}
		}
		first := slices.Concat(right[x.K:], right[:x.K])
		verified(t, "parity first", x, first, same(slowParity(t, x, first[:x.K]), first[x.K:]))
	})
	x := api.Params{P: api.KP, K: 2, M: 2}
	verified(t, "as they are", x, shardsOf("a", "b", "g", "d"), true)
	for _, texts := range [][]string{{"b", "a", "g", "d"}, {"a", "b", "d", "g"}, {"g", "b", "a", "d"}, {"d", "b", "g", "a"}, {"b", "g", "d", "a"}, {"a", "g", "b", "d"}} {
		verified(t, "another order", x, shardsOf(texts...), false)
	}
	// Parity first is right here: these rows, 3 2 and 2 3, times themselves are the identity.
	verified(t, "parity first", x, shardsOf("g", "d", "a", "b"), true)
}

func TestVerifyOfWrongParams(t *testing.T) {
	for _, x := range wrong() {
		for count := range 14 {
			verified(t, "params", x, make([][]byte, count), false)
			verified(t, "params", x, slices.Repeat([][]byte{{0, 0}}, count), false)
		}
	}
}

// Another profile's shards are not verified, but for those whose rows are the same: with two parity shards of 3 data shards or more BB's and KP's.
func TestVerifyOfAnotherProfile(t *testing.T) {
	r := numbers()
	for k := 3; k <= 8; k++ {
		for p := 1; p <= 6; p++ {
			shards := encoded(t, api.Params{P: p, K: k, M: 2}, some(r, 128))
			for q := 1; q <= 6; q++ {
				want := p == q || p+q == api.BB+api.KP && p >= api.BB && q >= api.BB
				x := api.Params{P: q, K: k, M: 2}
				verified(t, "another profile", x, shards, want)
			}
		}
	}
}

// Every call ends, at whatever arguments.
func TestCallsEnd(t *testing.T) {
	r := numbers()
	some := []int{math.MinInt, math.MinInt + 1, -1, 0, 1, 2, 3, 4, 5, 6, 7, 8, 9, 4096, 4097, math.MaxInt - 1, math.MaxInt}
	for range 5000 {
		x := api.Params{P: some[r.Intn(len(some))], K: some[r.Intn(len(some))], M: some[r.Intn(len(some))]}
		data := make([][]byte, r.Intn(14))
		for i := range data {
			data[i] = make([]byte, r.Intn(3)*r.Intn(2))
		}
		Parity(x, data)
		Verify(x, data)
		Encode(x, make([]byte, r.Intn(20)))
		x.P, x.K = 1+r.Intn(6), r.Intn(len(data)+1)
		x.M = len(data) - x.K
		Parity(x, data[:x.K])
		Verify(x, data)
	}
}
