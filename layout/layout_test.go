package layout

import (
	"bytes"
	"encoding/binary"
	"math"
	"slices"
	"strings"
	"testing"

	"gambrel/api"
)

// made is what the chapter's words say of a profile, written out a second time.
type made struct {
	unit  int
	ahead int
	maxM  int
}

// written is what is made of each profile.
func written() map[int]made {
	return map[int]made{
		1: {unit: 8, ahead: 0, maxM: 4},
		2: {unit: 8, ahead: 0, maxM: 4},
		3: {unit: 16, ahead: 0, maxM: 3},
		4: {unit: 16, ahead: 0, maxM: 4},
		5: {unit: 1, ahead: 4, maxM: 4},
		6: {unit: 1, ahead: 0, maxM: 4},
	}
}

// each goes through all profiles and numbers of data shards, with one parity shard.
func each(do func(x api.Params)) {
	for p := 1; p <= 6; p++ {
		for k := 1; k <= 8; k++ {
			do(api.Params{P: p, K: k, M: 1})
		}
	}
}

// params goes through all that may be.
func params(do func(x api.Params)) {
	each(func(x api.Params) {
		for m := 1; m <= written()[x.P].maxM; m++ {
			do(api.Params{P: x.P, K: x.K, M: m})
		}
	})
}

// wrong is params that may not be, each beside some that may.
func wrong() []api.Params {
	list := []api.Params{{}}
	for p := 1; p <= 6; p++ {
		for _, k := range []int{math.MinInt, -8, -1, 0, 9, 10, 257, math.MaxInt32, 1<<32 + 1, math.MaxInt} {
			list = append(list, api.Params{P: p, K: k, M: 1}, api.Params{P: p, K: k, M: written()[p].maxM})
		}
		for _, m := range []int{math.MinInt, -1, 0, written()[p].maxM + 1, 257, 1<<32 + 1, math.MaxInt} {
			list = append(list, api.Params{P: p, K: 1, M: m}, api.Params{P: p, K: 8, M: m})
		}
	}
	for _, p := range []int{math.MinInt, -1, 0, 7, 8, 257, 1<<32 + 1, math.MaxInt} {
		list = append(list, api.Params{P: p, K: 1, M: 1}, api.Params{P: p, K: 8, M: 3})
	}
	return list
}

// edges are numbers of bytes, of which the object may have some: for the params, as many as fill all shards wholly, and one more and one less.
func edges(x api.Params) []int {
	w := written()[x.P]
	list := []int{0, 1, 2, 3, 4, 5, 4092, 4093, 4095, 4096}
	for units := 1; units <= 6; units++ {
		full := units*w.unit*x.K - w.ahead
		list = append(list, full-1, full, full+1)
	}
	full := 4096 / (w.unit * x.K) * w.unit * x.K
	list = append(list, full-w.ahead-1, full-w.ahead, full-w.ahead+1)
	return slices.DeleteFunc(list, func(n int) bool { return n < 0 || n > 4096 })
}

// sizeOf is Size, found by going up from one unit.
func sizeOf(x api.Params, n int) int {
	w := written()[x.P]
	size := w.unit
	for x.K*size < w.ahead+n {
		size += w.unit
	}
	return size
}

// shardsOf is Split, made of one row of bytes.
func shardsOf(x api.Params, b []byte) [][]byte {
	var row []byte
	if written()[x.P].ahead == 4 {
		row = binary.BigEndian.AppendUint32(nil, uint32(len(b)))
	}
	row = append(row, b...)
	size := sizeOf(x, len(b))
	row = append(row, make([]byte, x.K*size-len(row))...)
	return slices.Collect(slices.Chunk(row, size))
}

// object is n bytes, of which none is 0.
func object(n int) []byte {
	b := make([]byte, n)
	for i := range b {
		b[i] = byte(i%251 + 1)
	}
	return b
}

// same tells whether two lists have the same shards.
func same(a, b [][]byte) bool { return slices.EqualFunc(a, b, bytes.Equal) }

// split is Split where nothing may be refused.
func split(t *testing.T, x api.Params, b []byte) [][]byte {
	t.Helper()
	got, e := Split(x, b)
	if e != api.OK {
		t.Fatalf("Split(%+v) of %d bytes: %v", x, len(b), e)
	}
	return got
}

func TestSizeAsItIsWritten(t *testing.T) {
	for _, c := range []struct{ p, k, n, want int }{
		{api.JV, 1, 0, 8}, {api.JV, 1, 8, 8}, {api.JV, 1, 9, 16}, {api.JV, 2, 5, 8}, {api.JV, 2, 16, 8}, {api.JV, 2, 17, 16},
		{api.JV, 3, 25, 16}, {api.JV, 8, 4096, 512}, {api.JV, 7, 4096, 592},
		{api.JC, 1, 1, 8}, {api.JC, 3, 24, 8}, {api.JC, 3, 48, 16}, {api.JC, 3, 49, 24}, {api.JC, 5, 4096, 824},
		{api.IR, 1, 0, 16}, {api.IR, 1, 16, 16}, {api.IR, 1, 17, 32}, {api.IR, 2, 33, 32}, {api.IR, 3, 4096, 1376}, {api.IR, 8, 4096, 512},
		{api.IC, 2, 32, 16}, {api.IC, 4, 65, 32}, {api.IC, 8, 128, 16}, {api.IC, 8, 129, 32}, {api.IC, 1, 4096, 4096},
		{api.BB, 1, 0, 4}, {api.BB, 2, 0, 2}, {api.BB, 3, 0, 2}, {api.BB, 4, 0, 1}, {api.BB, 8, 0, 1}, {api.BB, 4, 1, 2},
		{api.BB, 8, 4, 1}, {api.BB, 8, 5, 2}, {api.BB, 2, 5, 5}, {api.BB, 1, 4096, 4100}, {api.BB, 8, 4096, 513}, {api.BB, 8, 4092, 512},
		{api.KP, 1, 0, 1}, {api.KP, 8, 0, 1}, {api.KP, 2, 5, 3}, {api.KP, 3, 7, 3}, {api.KP, 8, 8, 1}, {api.KP, 8, 9, 2}, {api.KP, 7, 4096, 586},
	} {
		x := api.Params{P: c.p, K: c.k, M: 1}
		if got, e := Size(x, c.n); got != c.want || e != api.OK {
			t.Errorf("Size(%+v, %d): %d, %v, not %d", x, c.n, got, e, c.want)
		}
	}
}

func TestSizeIsTheLeast(t *testing.T) {
	each(func(x api.Params) {
		for n := 0; n <= 4096; n++ {
			if got, e := Size(x, n); got != sizeOf(x, n) || e != api.OK {
				t.Fatalf("Size(%+v, %d): %d, %v, not %d", x, n, got, e, sizeOf(x, n))
			}
		}
	})
}

// Parity shards change nothing.
func TestSizeOfAllParams(t *testing.T) {
	params(func(x api.Params) {
		for _, n := range edges(x) {
			if got, e := Size(x, n); got != sizeOf(x, n) || e != api.OK {
				t.Errorf("Size(%+v, %d): %d, %v, not %d", x, n, got, e, sizeOf(x, n))
			}
		}
	})
}

func TestSizeOfWrongNumbers(t *testing.T) {
	each(func(x api.Params) {
		for n, want := range map[int]api.Errno{
			-1: api.ErrArg, -4096: api.ErrArg, math.MinInt32: api.ErrArg, math.MinInt: api.ErrArg, math.MinInt + 1: api.ErrArg,
			4097: api.ErrBig, 4098: api.ErrBig, 65536: api.ErrBig, math.MaxInt32: api.ErrBig, 1<<32 + 1: api.ErrBig,
			math.MaxInt - 1: api.ErrBig, math.MaxInt: api.ErrBig,
		} {
			if got, e := Size(x, n); got != 0 || e != want {
				t.Errorf("Size(%+v, %d): %d, %v, not %v", x, n, got, e, want)
			}
		}
	})
}

// Params that may not be are named ahead of bytes that are too many.
func TestSizeOfWrongParams(t *testing.T) {
	for _, x := range wrong() {
		for _, n := range []int{math.MinInt, -1, 0, 1, 5, 4096, 4097, math.MaxInt} {
			if got, e := Size(x, n); got != 0 || e != api.ErrArg {
				t.Errorf("Size(%+v, %d): %d, %v, not refused", x, n, got, e)
			}
		}
	}
}

func TestSplitAsItIsWritten(t *testing.T) {
	zeros := strings.Repeat("\x00", 16)
	for _, c := range []struct {
		p, k int
		b    string
		want []string
	}{
		{api.JV, 1, "", []string{zeros[:8]}},
		{api.JV, 2, "", []string{zeros[:8], zeros[:8]}},
		{api.JV, 2, "abcde", []string{"abcde\x00\x00\x00", zeros[:8]}},
		{api.JV, 2, "abcdefghijk", []string{"abcdefgh", "ijk\x00\x00\x00\x00\x00"}},
		{api.JV, 2, "abcdefghijklmnop", []string{"abcdefgh", "ijklmnop"}},
		{api.JV, 2, "abcdefghijklmnopq", []string{"abcdefghijklmnop", "q" + zeros[:15]}},
		{api.JC, 2, "abcde", []string{"abcde\x00\x00\x00", zeros[:8]}},
		{api.JC, 3, "abcdefghijklmnopqrstuvwxy", []string{"abcdefghijklmnop", "qrstuvwxy" + zeros[:7], zeros}},
		{api.IR, 1, "", []string{zeros}},
		{api.IR, 2, "abcde", []string{"abcde" + zeros[:11], zeros}},
		{api.IR, 2, "abcdefghijklmnopq", []string{"abcdefghijklmnop", "q" + zeros[:15]}},
		{api.IC, 1, "abcdefghijklmnop", []string{"abcdefghijklmnop"}},
		{api.IC, 3, "abcdefghijklmnopq", []string{"abcdefghijklmnop", "q" + zeros[:15], zeros}},
		{api.BB, 1, "", []string{"\x00\x00\x00\x00"}},
		{api.BB, 2, "", []string{"\x00\x00", "\x00\x00"}},
		{api.BB, 3, "", []string{"\x00\x00", "\x00\x00", "\x00\x00"}},
		{api.BB, 5, "", []string{"\x00", "\x00", "\x00", "\x00", "\x00"}},
		{api.BB, 1, "abcde", []string{"\x00\x00\x00\x05abcde"}},
		{api.BB, 2, "abcde", []string{"\x00\x00\x00\x05a", "bcde\x00"}},
		{api.BB, 5, "abcde", []string{"\x00\x00", "\x00\x05", "ab", "cd", "e\x00"}},
		{api.BB, 8, "abcd", []string{"\x00", "\x00", "\x00", "\x04", "a", "b", "c", "d"}},
		{api.KP, 1, "", []string{"\x00"}},
		{api.KP, 3, "", []string{"\x00", "\x00", "\x00"}},
		{api.KP, 2, "abcde", []string{"abc", "de\x00"}},
		{api.KP, 3, "abcdefghi", []string{"abc", "def", "ghi"}},
		{api.KP, 4, "abcde", []string{"ab", "cd", "e\x00", "\x00\x00"}},
		{api.KP, 8, "abc", []string{"a", "b", "c", "\x00", "\x00", "\x00", "\x00", "\x00"}},
	} {
		x := api.Params{P: c.p, K: c.k, M: 1}
		var want [][]byte
		for _, shard := range c.want {
			want = append(want, []byte(shard))
		}
		if got := split(t, x, []byte(c.b)); !same(got, want) {
			t.Errorf("Split(%+v, %q): %q, not %q", x, c.b, got, want)
		}
		if got, e := Join(x, want, len(c.b)); string(got) != c.b || e != api.OK {
			t.Errorf("Join(%+v, %q): %q, %v, not %q", x, want, got, e, c.b)
		}
	}
}

// Both of the head's lower bytes are laid.
func TestSplitLaysHowManyBytes(t *testing.T) {
	for n, want := range map[int]string{0: "\x00\x00\x00\x00", 1: "\x00\x00\x00\x01", 255: "\x00\x00\x00\xff", 256: "\x00\x00\x01\x00", 1000: "\x00\x00\x03\xe8", 4095: "\x00\x00\x0f\xff", 4096: "\x00\x00\x10\x00"} {
		got := split(t, api.Params{P: api.BB, K: 1, M: 1}, object(n))
		if len(got) != 1 || string(got[0]) != want+string(object(n)) {
			t.Errorf("Split of %d bytes: %d shards, the first one %q", n, len(got), got[0])
		}
	}
}

// What is laid stands one shard behind the other, and 0s behind it.
func TestSplitAtTheEdges(t *testing.T) {
	params(func(x api.Params) {
		for _, n := range edges(x) {
			b := object(n)
			got := split(t, x, b)
			if !same(got, shardsOf(x, b)) {
				t.Errorf("Split(%+v) of %d bytes: %q, not %q", x, n, got, shardsOf(x, b))
			}
			size, e := Size(x, n)
			if len(got) != x.K || e != api.OK || slices.ContainsFunc(got, func(shard []byte) bool { return len(shard) != size }) {
				t.Errorf("Split(%+v) of %d bytes: %d shards, not of %d bytes", x, n, len(got), size)
			}
		}
	})
}

func TestSplitOfNil(t *testing.T) {
	each(func(x api.Params) {
		if got, again := split(t, x, nil), split(t, x, []byte{}); !same(got, again) || !same(got, shardsOf(x, nil)) {
			t.Errorf("Split(%+v) of nil: %q, not %q", x, got, again)
		}
	})
}

func TestSplitOfTooManyBytes(t *testing.T) {
	each(func(x api.Params) {
		for _, n := range []int{4097, 4098, 8192, 65536, 1 << 20} {
			if got, e := Split(x, make([]byte, n)); len(got) != 0 || e != api.ErrBig {
				t.Errorf("Split(%+v) of %d bytes: %d shards, %v", x, n, len(got), e)
			}
		}
	})
}

func TestSplitOfWrongParams(t *testing.T) {
	for _, x := range wrong() {
		for _, n := range []int{0, 5, 4096, 4097} {
			if got, e := Split(x, make([]byte, n)); len(got) != 0 || e != api.ErrArg {
				t.Errorf("Split(%+v) of %d bytes: %q, %v, not refused", x, n, got, e)
			}
		}
	}
}
