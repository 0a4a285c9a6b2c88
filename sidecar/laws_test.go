package sidecar

import (
	"bytes"
	"math"
	"reflect"
	"slices"
	"strings"
	"sync"
	"testing"

	"gambrel/api"
)

// Sidecars are told there and back.
func TestThereAndBack(t *testing.T) {
	r := numbers()
	params(func(x api.Params) {
		metas(r, x, func(m Meta) {
			got, e := Take(put(t, m))
			if e != api.OK || !Same(got, m) || !reflect.DeepEqual(got, m) {
				t.Errorf("Take(Put(%+v)): %+v, %v", m, got, e)
			}
			wantPut(t, got, laid(m))
		})
	})
}

// No two sidecars have the same bytes, nor is one's the beginning of another one's.
func TestNoTwoHaveTheSameBytes(t *testing.T) {
	r := numbers()
	seen := map[string]Meta{}
	var all []string
	params(func(x api.Params) {
		metas(r, x, func(m Meta) {
			b := string(put(t, m))
			if other, ok := seen[b]; ok && !Same(other, m) {
				t.Errorf("of %+v and of %+v: %q", other, m, b)
			}
			seen[b] = m
			all = append(all, b)
		})
	})
	slices.Sort(all)
	all = slices.Compact(all)
	for i, b := range all[1:] {
		if strings.HasPrefix(b, all[i]) {
			t.Errorf("%q begins with %q", b, all[i])
		}
	}
}

// A sidecar with one byte otherwise, whichever, is none.
func TestOneByteOtherwise(t *testing.T) {
	r := numbers()
	fewAndMany(func(x api.Params) {
		b := put(t, some(r, x))
		for i := range b {
			for by := 1; by < 256; by++ {
				b[i] ^= byte(by)
				none(t, "one byte otherwise", b)
				b[i] ^= byte(by)
			}
		}
		if _, e := Take(b); e != api.OK {
			t.Errorf("as it was: Take(%q): %v", b, e)
		}
	})
}

// One bit otherwise, of all params.
func TestOneBitOtherwise(t *testing.T) {
	r := numbers()
	params(func(x api.Params) {
		b := put(t, some(r, x))
		for i := range 8 * len(b) {
			b[i/8] ^= 1 << (i % 8)
			none(t, "one bit otherwise", b)
			b[i/8] ^= 1 << (i % 8)
		}
	})
}

// behind is b, with other bytes behind it in the same memory.
func behind(b []byte) []byte {
	return append(slices.Clone(b), bytes.Repeat([]byte{0xEE}, 40)...)[:len(b)]
}

// roomy is m, with other sums behind its own in the same memory.
func roomy(m Meta) Meta {
	m.Sums = append(slices.Clone(m.Sums), 1, 2, 3, 4, 5, 6, 7, 8)[:len(m.Sums)]
	return m
}

// What is handed in stays as it is, and what lies behind it in its room.
func TestWhatIsHandedInStays(t *testing.T) {
	r := numbers()
	params(func(x api.Params) {
		for _, m := range []Meta{some(r, x), {X: x, Size: -1, Sums: make([]uint32, x.K+x.M)}, {X: x, Sums: make([]uint32, x.K)}} {
			m := roomy(m)
			before := slices.Clone(m.Sums[:cap(m.Sums)])
			May(m)
			Put(m)
			Same(m, m)
			Same(m, Meta{X: m.X, Size: m.Size, Sums: slices.Clone(m.Sums)})
			if !slices.Equal(m.Sums[:cap(m.Sums)], before) {
				t.Fatalf("%+v is changed", m)
			}
		}
		whole := put(t, some(r, x))
		for _, b := range [][]byte{whole, whole[:len(whole)-1], whole[:len(whole)/2], whole[1:], append(slices.Clone(whole), 0), sealed(x.P, whole)} {
			b := behind(b)
			before := slices.Clone(b[:cap(b)])
			Take(b)
			if !bytes.Equal(b[:cap(b)], before) {
				t.Fatalf("Take changes what it is given: %q", b)
			}
		}
		for _, n := range []int{0, 1, 5, 100, 4096, 4097} {
			b := behind(object(r, n))
			before := slices.Clone(b[:cap(b)])
			Of(x, b)
			Of(api.Params{P: x.P}, b)
			if !bytes.Equal(b[:cap(b)], before) {
				t.Fatalf("Of(%+v) changes what it is given, of %d bytes", x, n)
			}
		}
	})
}

// What lies behind bytes in their room does not count.
func TestTheRoomBehindDoesNotCount(t *testing.T) {
	r := numbers()
	fewAndMany(func(x api.Params) {
		m := some(r, x)
		wantTaken(t, behind(laid(m)), m)
		wantTaken(t, slices.Clip(laid(m)), m)
		wantPut(t, roomy(m), laid(m))
		b := laid(m)
		for n := range b {
			none(t, "the rest in the room behind", b[:n])
		}
		short := roomy(m)
		short.Sums = short.Sums[:len(short.Sums)-1]
		refused(t, "a sum in the room behind", short)
	})
}

// writeOver writes over all that was told, and the room behind it.
func writeOver(b []byte) {
	for i := range b[:cap(b)] {
		b[:cap(b)][i] ^= 0xFF
	}
}

// overSums likewise writes over sums.
func overSums(sums []uint32) {
	for i := range sums[:cap(sums)] {
		sums[:cap(sums)][i] ^= math.MaxUint32
	}
}

// Bytes that are told share nothing with the sums, nor with those of another call.
func TestPutIsMadeAnew(t *testing.T) {
	r := numbers()
	params(func(x api.Params) {
		m := roomy(some(r, x))
		kept, want := like(m), laid(m)
		one, two := put(t, m), put(t, m)
		writeOver(one)
		if !bytes.Equal(two, want) || !Same(m, kept) {
			t.Fatalf("Put(%+v) is shared", kept)
		}
		overSums(m.Sums)
		if !bytes.Equal(two, want) {
			t.Fatalf("Put(%+v) is the sums' own memory", kept)
		}
		wantPut(t, kept, want)
	})
}

// Sums that are told share nothing with the bytes, nor with those of another call.
func TestTakeIsMadeAnew(t *testing.T) {
	r := numbers()
	params(func(x api.Params) {
		m := some(r, x)
		b := behind(laid(m))
		one, _ := Take(b)
		two, _ := Take(b)
		overSums(one.Sums)
		if !Same(two, m) || !bytes.Equal(b, laid(m)) {
			t.Fatalf("Take of %+v is shared", m)
		}
		writeOver(b)
		if !Same(two, m) {
			t.Fatalf("Take of %+v is the bytes' own memory", m)
		}
		wantTaken(t, laid(m), m)
	})
}

// The sums of an object are the caller's own.
func TestOfIsMadeAnew(t *testing.T) {
	r := numbers()
	params(func(x api.Params) {
		b := object(r, 50)
		one, _ := Of(x, b)
		two, _ := Of(x, b)
		want := like(two)
		overSums(one.Sums)
		if !Same(two, want) {
			t.Fatalf("Of(%+v) is shared", x)
		}
		wantOf(t, x, b, want)
		writeOver(b)
		if !Same(two, want) {
			t.Fatalf("Of(%+v) is the object's own memory", x)
		}
	})
}

// Nothing is kept from call to call: whatever was asked between, the answer is the same.
func TestNothingIsKept(t *testing.T) {
	r := numbers()
	for range 300 {
		p := 1 + r.Intn(6)
		x := api.Params{P: p, K: 1 + r.Intn(8), M: 1 + r.Intn(forms()[p].maxM)}
		m, b := some(r, x), object(r, r.Intn(100))
		of, e := Of(x, b)
		if e != api.OK {
			t.Fatalf("Of(%+v): %v", x, e)
		}
		want := like(of)
		other := some(r, api.Params{P: 1 + r.Intn(6), K: 1 + r.Intn(8), M: 1 + r.Intn(3)})
		Put(other)
		Put(Meta{})
		Take(laid(other))
		Take(laid(other)[1:])
		Of(other.X, object(r, r.Intn(5000)))
		wantPut(t, m, laid(m))
		wantTaken(t, laid(m), m)
		wantOf(t, x, b, want)
	}
}

func TestManyAtOnce(t *testing.T) {
	var all sync.WaitGroup
	shared := some(numbers(), api.Params{P: api.JV, K: 4, M: 2})
	for i := range 8 {
		all.Go(func() {
			for n := range 50 {
				m := Meta{X: api.Params{P: api.KP, K: 1, M: 1}, Size: n, Sums: []uint32{uint32(i), uint32(n)}}
				wantPut(t, m, laid(m))
				wantTaken(t, laid(m), m)
				wantPut(t, shared, laid(shared))
				if of, e := Of(m.X, []byte{byte(i)}); e != api.OK || !Same(of, like(of)) || of.Sums[0] != of.Sums[1] {
					t.Errorf("Of: %+v, %v", of, e)
				}
			}
		})
	}
	all.Wait()
}

// Every call ends and none panics, at all arguments.
func TestCallsEnd(t *testing.T) {
	far := []int{math.MinInt, math.MinInt32, -1, 0, 1, 2, 6, 7, 255, 256, math.MaxInt32, math.MaxInt}
	for _, p := range far {
		for _, k := range far {
			for _, m := range far {
				x := api.Params{P: p, K: k, M: m}
				Of(x, nil)
				for _, size := range far {
					for _, n := range []int{0, 1, 2, 3, 4} {
						meta := Meta{X: x, Size: size, Sums: make([]uint32, n)}
						May(meta)
						Put(meta)
						Same(meta, Meta{})
					}
				}
			}
		}
	}
	for _, f := range forms() {
		for _, one := range []string{"", "\x00", "\x01", "\xff", "0", " ", "\n", "0 ", "1 1 1 8\n", "00000000\n", "é"} {
			Take([]byte(f.head + strings.Repeat(one, 1<<18)))
			Take([]byte(strings.Repeat(f.head, 1000) + one))
		}
	}
	Of(api.Params{P: api.JC, K: 8, M: 4}, make([]byte, 1<<22))
}
