package sidecar

import (
	"bytes"
	"encoding/binary"
	"fmt"
	"hash/crc32"
	"math"
	"math/rand"
	"reflect"
	"slices"
	"testing"

	"gambrel/api"
)

// numbers are a source of test inputs that is the same in each run.
func numbers() *rand.Rand { return rand.New(rand.NewSource(14)) }

// form is how the chapter has the sidecars of a profile.
type form struct {
	head  string
	bits  int // of the text alone
	sized bool
	order binary.AppendByteOrder // nil of the text
	maxM  int
}

// forms are the chapter's words, written a second time.
func forms() map[int]form {
	return map[int]form{
		api.JV: {"jerasure reed_sol_van\n", 8, true, nil, 4},
		api.JC: {"jerasure cauchy_orig\n", 16, true, nil, 4},
		api.IR: {"ISAL\x01", 0, true, binary.LittleEndian, 3},
		api.IC: {"ISAL\x02", 0, true, binary.LittleEndian, 4},
		api.BB: {"BBRS", 0, false, binary.BigEndian, 4},
		api.KP: {"KPRS", 0, true, binary.BigEndian, 4},
	}
}

// sealed is bytes, and their sum behind them, as the profile has it: bytes whose sum is right.
func sealed(p int, b []byte) []byte {
	sum := crc32.ChecksumIEEE(b)
	if order := forms()[p].order; order != nil {
		return order.AppendUint32(slices.Clone(b), sum)
	}
	return fmt.Appendf(slices.Clone(b), "%08x\n", sum)
}

// unsealed is a sidecar's bytes, but for the last sum.
func unsealed(p int, b []byte) []byte {
	if forms()[p].order != nil {
		return slices.Clone(b[:len(b)-4])
	}
	return slices.Clone(b[:len(b)-9])
}

// laid is the bytes of m by the chapter's words, whether it may be or not.
func laid(m Meta) []byte {
	f := forms()[m.X.P]
	b := []byte(f.head)
	if f.order == nil {
		b = fmt.Appendf(b, "%d %d %d %d\n", m.Size, m.X.K, m.X.M, f.bits)
		for _, sum := range m.Sums {
			b = fmt.Appendf(b, "%08x\n", sum)
		}
		return sealed(m.X.P, b)
	}
	b = append(b, byte(m.X.K), byte(m.X.M))
	if f.sized {
		b = f.order.AppendUint32(b, uint32(m.Size))
	}
	for _, sum := range m.Sums {
		b = f.order.AppendUint32(b, sum)
	}
	return sealed(m.X.P, b)
}

// params calls f with all params that may be.
func params(f func(x api.Params)) {
	for p := api.JV; p <= api.KP; p++ {
		for k := 1; k <= 8; k++ {
			for m := 1; m <= forms()[p].maxM; m++ {
				f(api.Params{P: p, K: k, M: m})
			}
		}
	}
}

// fewAndMany calls f with the fewest and the most shards of each profile, and with some between.
func fewAndMany(f func(x api.Params)) {
	for p := api.JV; p <= api.KP; p++ {
		for _, x := range []api.Params{{P: p, K: 1, M: 1}, {P: p, K: 3, M: 2}, {P: p, K: 8, M: forms()[p].maxM}} {
			f(x)
		}
	}
}

// sizesOf are sizes that may be of the profile: the limits, and what lies between.
func sizesOf(p int) []int {
	if !forms()[p].sized {
		return []int{0}
	}
	return []int{0, 1, 9, 10, 99, 100, 255, 256, 258, 999, 1000, 4095, 4096}
}

// sumsOf are lists of n sums: the lowest, the highest, those whose texts begin with zeros, and any.
func sumsOf(r *rand.Rand, n int) [][]uint32 {
	rising, chance := make([]uint32, n), make([]uint32, n)
	for i := range n {
		rising[i] = uint32(i) * 0x01020304
		chance[i] = r.Uint32() >> r.Intn(32)
	}
	low := slices.Repeat([]uint32{0, 1, 0xF, 0xBF, 0xABC}, n)[:n]
	high := slices.Repeat([]uint32{0x10000000, 0x0FFFFFFF, 0xFF000000, 0x80000000}, n)[:n]
	return [][]uint32{make([]uint32, n), slices.Repeat([]uint32{math.MaxUint32}, n), rising, chance, low, high}
}

// some is a sidecar of x that may be, by chance.
func some(r *rand.Rand, x api.Params) Meta {
	sizes, sums := sizesOf(x.P), sumsOf(r, x.K+x.M)
	return Meta{X: x, Size: sizes[r.Intn(len(sizes))], Sums: sums[r.Intn(len(sums))]}
}

// metas calls f with sidecars that may be, of x.
func metas(r *rand.Rand, x api.Params, f func(m Meta)) {
	for _, size := range sizesOf(x.P) {
		for _, sums := range sumsOf(r, x.K+x.M) {
			f(Meta{X: x, Size: size, Sums: sums})
		}
	}
}

// put is Put where nothing may be refused.
func put(t *testing.T, m Meta) []byte {
	t.Helper()
	b, e := Put(m)
	if e != api.OK {
		t.Fatalf("Put(%+v): %v", m, e)
	}
	return b
}

// wantPut holds what Put tells of m.
func wantPut(t *testing.T, m Meta, want []byte) {
	t.Helper()
	if b, e := Put(m); !bytes.Equal(b, want) || e != api.OK {
		t.Errorf("Put(%+v): %q, %v; not %q", m, b, e, want)
	}
	if !May(m) {
		t.Errorf("May(%+v) is false", m)
	}
}

// refused holds that m may not be.
func refused(t *testing.T, what string, m Meta) {
	t.Helper()
	if May(m) {
		t.Errorf("%s: May(%+v) is true", what, m)
	}
	if b, e := Put(m); len(b) != 0 || e != api.ErrArg {
		t.Errorf("%s: Put(%+v): %q, %v", what, m, b, e)
	}
}

// written are sidecars, and their bytes as they stand in the chapter's words, the last sums worked out elsewhere.
func written() map[string]Meta {
	return map[string]Meta{
		"jerasure reed_sol_van\n4096 2 1 8\n00000000\nffffffff\n000000bf\nf18d4c8a\n": {
			api.Params{P: api.JV, K: 2, M: 1}, 4096, []uint32{0, 0xFFFFFFFF, 0xBF}},
		"jerasure cauchy_orig\n0 1 2 16\n352441c2\n00000001\n10000000\n2843e7ec\n": {
			api.Params{P: api.JC, K: 1, M: 2}, 0, []uint32{0x352441C2, 1, 0x10000000}},
		"ISAL\x01\x02\x01\xff\x0f\x00\x00\x04\x03\x02\x01\x00\x00\x00\x00\xff\xff\xff\xff\xe3`,`": {
			api.Params{P: api.IR, K: 2, M: 1}, 4095, []uint32{0x01020304, 0, 0xFFFFFFFF}},
		"ISAL\x02\x01\x04\x01\x00\x00\x00\xd0\xc0\xb0\xa0\x01\x00\x00\x00\x02\x00\x00\x00\x03\x00\x00\x00\x00\x00\x00\xff\"\xb5\xc0\xc1": {
			api.Params{P: api.IC, K: 1, M: 4}, 1, []uint32{0xA0B0C0D0, 1, 2, 3, 0xFF000000}},
		"BBRS\x02\x02\x01\x02\x03\x04\x00\x00\x00\xbf\x00\x00\x00\x00\xff\xff\xff\xff\x9cF\x80\xb9": {
			api.Params{P: api.BB, K: 2, M: 2}, 0, []uint32{0x01020304, 0xBF, 0, 0xFFFFFFFF}},
		"KPRS\x01\x01\x00\x00\x10\x00\x01\x02\x03\x04\x00\x00\x00\xbf\xae\x83\x81Y": {
			api.Params{P: api.KP, K: 1, M: 1}, 4096, []uint32{0x01020304, 0xBF}},
	}
}

func TestPutAsItIsWritten(t *testing.T) {
	for b, m := range written() {
		wantPut(t, m, []byte(b))
		if !bytes.Equal(laid(m), []byte(b)) {
			t.Errorf("the tests' own %+v: %q, not %q", m, laid(m), b)
		}
	}
}

func TestASidecarOfJerasureBeginsWithItsName(t *testing.T) {
	for _, p := range []int{api.JV, api.JC} {
		b := put(t, some(numbers(), api.Params{P: p, K: 2, M: 2}))
		if !bytes.HasPrefix(b, []byte("jerasure")) {
			t.Errorf("of %d: %q", p, b)
		}
	}
}

func TestPutByTheWords(t *testing.T) {
	r := numbers()
	params(func(x api.Params) {
		metas(r, x, func(m Meta) { wantPut(t, m, laid(m)) })
	})
}

// Each size that may be has its own figures.
func TestPutOfEachSize(t *testing.T) {
	for _, p := range []int{api.JV, api.JC, api.IR, api.IC, api.KP} {
		for size := 0; size <= 4096; size++ {
			m := Meta{X: api.Params{P: p, K: 1, M: 1}, Size: size, Sums: []uint32{1, 2}}
			wantPut(t, m, laid(m))
		}
	}
}

func TestParamsThatMayNotBe(t *testing.T) {
	for p := api.JV; p <= api.KP; p++ {
		f := forms()[p]
		for _, x := range []api.Params{
			{P: p}, {P: p, K: 1}, {P: p, M: 1}, {P: p, K: 9, M: 1}, {P: p, K: 8, M: f.maxM + 1}, {P: p, K: 1, M: f.maxM + 1},
			{P: p, K: -1, M: 3}, {P: p, K: 3, M: -1}, {P: p, K: 256 + 2, M: 2}, {P: p, K: 2, M: 256 + 2}, {P: p, K: 255, M: 1},
		} {
			n := max(0, x.K+x.M)
			refused(t, "no params", Meta{X: x, Sums: make([]uint32, n)})
			refused(t, "no params, 3 sums", Meta{X: x, Sums: make([]uint32, 3)})
		}
	}
	for _, p := range []int{0, -1, 7, 8, 256 + 1, math.MaxInt, math.MinInt} {
		refused(t, "no profile", Meta{X: api.Params{P: p, K: 1, M: 1}, Sums: []uint32{1, 2}})
	}
	// Their sum is that of two shards, or too large to be told.
	for _, x := range []api.Params{
		{P: api.KP, K: math.MaxInt, M: 3 - math.MaxInt}, {P: api.KP, K: math.MaxInt, M: math.MaxInt}, {P: api.KP, K: math.MinInt, M: math.MinInt}, {P: api.KP, K: 0, M: 2}, {P: api.KP, K: 5, M: -3},
	} {
		for n := range 4 {
			refused(t, "no params", Meta{X: x, Sums: make([]uint32, n)})
		}
	}
	refused(t, "zero", Meta{})
	refused(t, "one sum alone", Meta{Sums: []uint32{1}})
}

func TestSizesThatMayNotBe(t *testing.T) {
	params(func(x api.Params) {
		sums := make([]uint32, x.K+x.M)
		for _, size := range []int{-1, -2, -4096, 4097, 5000, 65536, 1 << 30, math.MaxInt, math.MinInt, math.MinInt + 1, 1<<32 - 1, 1 << 32, 1<<32 + 1} {
			refused(t, "no size", Meta{X: x, Size: size, Sums: sums})
		}
		for _, size := range []int{1, 2, 255, 4095, 4096} {
			if m := (Meta{X: x, Size: size, Sums: sums}); forms()[x.P].sized {
				wantPut(t, m, laid(m))
			} else {
				refused(t, "a size that stands in the shards", m)
			}
		}
	})
}

func TestSumsTooFewOrTooMany(t *testing.T) {
	params(func(x api.Params) {
		for n := range 30 {
			m := Meta{X: x, Sums: make([]uint32, n)}
			if n == x.K+x.M {
				wantPut(t, m, laid(m))
			} else {
				refused(t, "so many sums", m)
			}
		}
		refused(t, "nil", Meta{X: x})
		refused(t, "empty", Meta{X: x, Sums: []uint32{}})
		refused(t, "empty, with room", Meta{X: x, Sums: make([]uint32, 0, x.K+x.M)})
		refused(t, "many", Meta{X: x, Sums: make([]uint32, 70000)})
	})
}

// May is asked for all small numbers.
func TestMayByTheWords(t *testing.T) {
	for p := -1; p <= 8; p++ {
		for k := -1; k <= 10; k++ {
			for m := -1; m <= 6; m++ {
				for n := range 16 {
					for _, size := range []int{-1, 0, 1, 4096, 4097} {
						f, ok := forms()[p]
						want := ok && k >= 1 && k <= 8 && m >= 1 && m <= f.maxM && n == k+m && size >= 0 && size <= 4096 && (size == 0 || f.sized)
						meta := Meta{X: api.Params{P: p, K: k, M: m}, Size: size, Sums: make([]uint32, n)}
						if got := May(meta); got != want {
							t.Fatalf("May(%+v): %v", meta, got)
						}
					}
				}
			}
		}
	}
}

// wantTaken holds what Take tells of b.
func wantTaken(t *testing.T, b []byte, want Meta) {
	t.Helper()
	m, e := Take(b)
	if e != api.OK || !reflect.DeepEqual(m, want) {
		t.Errorf("Take(%q): %+v, %v; not %+v", b, m, e, want)
	}
}

// none holds that b is no sidecar's bytes.
func none(t *testing.T, what string, b []byte) {
	t.Helper()
	if m, e := Take(b); e != api.ErrForm || m.X != (api.Params{}) || m.Size != 0 || len(m.Sums) != 0 {
		t.Errorf("%s: Take(%q): %+v, %v", what, b, m, e)
	}
}
