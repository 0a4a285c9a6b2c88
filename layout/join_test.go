package layout

import (
	"bytes"
	"encoding/binary"
	"math"
	"math/rand"
	"slices"
	"testing"

	"gambrel/api"
)

// numbers are a source of test inputs that is the same in each run.
func numbers() *rand.Rand { return rand.New(rand.NewSource(10)) }

// zeros is k shards of so many bytes.
func zeros(k, size int) [][]byte {
	data := make([][]byte, k)
	for i := range data {
		data[i] = make([]byte, size)
	}
	return data
}

// cut is k shards of so many bytes: the row's, and 0s behind them.
func cut(row []byte, k, size int) [][]byte {
	row = append(slices.Clone(row), make([]byte, max(0, k*size-len(row)))...)
	return slices.Collect(slices.Chunk(row, size))
}

// refused holds that Join tells that error, and no bytes.
func refused(t *testing.T, x api.Params, data [][]byte, n int, want api.Errno) {
	t.Helper()
	if got, e := Join(x, data, n); len(got) != 0 || e != want {
		t.Errorf("Join(%+v) of %d shards, %.40q, as %d bytes: %q, %v, not %v", x, len(data), data, n, got, e, want)
	}
}

// joins holds that Join tells these bytes.
func joins(t *testing.T, x api.Params, data [][]byte, n int, want []byte) {
	t.Helper()
	if got, e := Join(x, data, n); !bytes.Equal(got, want) || e != api.OK {
		t.Errorf("Join(%+v) of %d shards, %.40q, as %d bytes: %q, %v, not %q", x, len(data), data, n, got, e, want)
	}
}

func TestJoinOfWrongParams(t *testing.T) {
	for _, x := range wrong() {
		for _, k := range []int{0, 1, 2, 8, 9} {
			refused(t, x, zeros(k, 16), 5, api.ErrArg)
			refused(t, x, zeros(k, 0), -1, api.ErrArg)
		}
		refused(t, x, nil, 0, api.ErrArg)
	}
}

func TestJoinOfAnotherNumberOfShards(t *testing.T) {
	each(func(x api.Params) {
		refused(t, x, nil, 5, api.ErrArg)
		refused(t, x, [][]byte{}, 0, api.ErrArg)
		right := split(t, x, object(5))
		refused(t, x, right[:x.K-1], 5, api.ErrArg)
		refused(t, x, append(slices.Clone(right), make([]byte, len(right[0]))), 5, api.ErrArg)
		refused(t, x, slices.Concat(right, right), 5, api.ErrArg)
		// Ahead of all that is ErrForm.
		for _, k := range []int{0, x.K - 1, x.K + 1, x.K + 8} {
			refused(t, x, zeros(k, 0), 5, api.ErrArg)
			refused(t, x, zeros(k, 7), -1, api.ErrArg)
			refused(t, x, zeros(k, 16), 4097, api.ErrArg)
		}
	})
}

func TestJoinOfUnlikeLengths(t *testing.T) {
	each(func(x api.Params) {
		unit := written()[x.P].unit
		for i := range x.K {
			if x.K == 1 {
				continue
			}
			for _, other := range []int{0, 15, 16 - unit, 17, 16 + unit, 48} {
				data := zeros(x.K, 16)
				data[i] = make([]byte, other)
				refused(t, x, data, 5, api.ErrArg)
				refused(t, x, data, -1, api.ErrArg)
				refused(t, x, data, 4097, api.ErrArg)
			}
			data := zeros(x.K, 16)
			data[i] = nil
			refused(t, x, data, 0, api.ErrArg)
			// Neither is a multiple of the unit, nor are there four bytes.
			data = zeros(x.K, 0)
			data[i] = make([]byte, 1)
			refused(t, x, data, 0, api.ErrArg)
		}
	})
}

func TestJoinOfNoMultipleOfTheUnit(t *testing.T) {
	each(func(x api.Params) {
		refused(t, x, make([][]byte, x.K), 0, api.ErrForm)
		for size := range 50 {
			if size == 0 || size%written()[x.P].unit != 0 {
				for _, n := range []int{math.MinInt, -1, 0, 1, 5, size, 4096, 4097, math.MaxInt} {
					refused(t, x, zeros(x.K, size), n, api.ErrForm)
				}
			}
		}
	})
}

// The head's four bytes may be in one shard or in four.
func TestJoinOfLessThanAHead(t *testing.T) {
	for k := 1; k <= 8; k++ {
		x := api.Params{P: api.BB, K: k, M: 1}
		for size := range 4 {
			for _, n := range []int{math.MinInt, -1, 0, 1, k * size, 4097} {
				if k*size < 4 {
					refused(t, x, zeros(k, size), n, api.ErrForm)
				}
			}
		}
		joins(t, x, zeros(k, (4+k-1)/k), 0, nil)
	}
}

func TestJoinOfWrongNumbers(t *testing.T) {
	each(func(x api.Params) {
		if x.P == api.BB {
			return
		}
		for _, length := range edges(x) {
			data := split(t, x, object(length))
			all := x.K * len(data[0])
			for _, n := range []int{math.MinInt, math.MinInt + length, -4096, -1, 4097, all + 1, all + 8, math.MaxInt32, 1<<32 + length, math.MaxInt - 7, math.MaxInt} {
				refused(t, x, data, n, api.ErrForm)
			}
		}
		// Even if there are so many.
		unit := written()[x.P].unit
		for size := unit; x.K*size <= 9000; size += unit {
			if x.K*size > 4096 {
				refused(t, x, zeros(x.K, size), 4097, api.ErrForm)
				refused(t, x, zeros(x.K, size), x.K*size, api.ErrForm)
			}
		}
	})
}

// Backblaze's shards say it themselves: nothing hangs on n.
func TestJoinWhateverTheNumberIs(t *testing.T) {
	for k := 1; k <= 8; k++ {
		x := api.Params{P: api.BB, K: k, M: 1}
		for _, length := range edges(x) {
			b := object(length)
			data := split(t, x, b)
			for _, n := range []int{math.MinInt, -1, 0, 1, length - 1, length, length + 1, 4096, 4097, math.MaxInt} {
				joins(t, x, data, n, b)
			}
		}
	}
}

// said is the shards of Backblaze's layout that say that number, of the object's own bytes, and of the length that is wanted.
func said(x api.Params, number uint32, b []byte, size int) [][]byte {
	return cut(append(binary.BigEndian.AppendUint32(nil, number), b...), x.K, size)
}

func TestJoinOfWhatTheHeadSays(t *testing.T) {
	for k := 1; k <= 8; k++ {
		x := api.Params{P: api.BB, K: k, M: 1}
		for _, length := range []int{0, 1, 5, 100, 4095, 4096} {
			b := object(length)
			size := sizeOf(x, length)
			right := uint32(length)
			joins(t, x, said(x, right, b, size), 0, b)
			for _, number := range []uint32{
				uint32(x.K*size) - 3, uint32(x.K * size), 4097, 65535, 65536, 1 << 24, 1<<31 - 1, 1 << 31, 1<<31 + 1, 1<<32 - 1, 1<<32 - 5,
				right | 1<<31, right | 1<<30, right | 1<<24, right | 1<<23, right | 1<<16, right | 1<<15, right | 1<<13,
			} {
				refused(t, x, said(x, number, b, size), length, api.ErrForm)
			}
		}
		// Even if there are so many, and they are just as many as fill all shards.
		for _, length := range []int{4097, 4098, 5000, 65536, 70000} {
			size := sizeOf(x, length)
			refused(t, x, said(x, uint32(length), object(length), size), length, api.ErrForm)
			refused(t, x, said(x, uint32(length), object(length), size), 5, api.ErrForm)
		}
	}
}

// As many as there are may be said, and one more not.
func TestJoinOfAsManyAsThereAre(t *testing.T) {
	each(func(x api.Params) {
		w := written()[x.P]
		for units := 1; units <= 5; units++ {
			size := units * w.unit
			full := x.K*size - w.ahead
			if full < 0 {
				continue
			}
			row := object(full)
			if w.ahead == 4 {
				joins(t, x, said(x, uint32(full), row, size), 0, row)
				refused(t, x, said(x, uint32(full+1), row, size), full, api.ErrForm)
			} else {
				joins(t, x, cut(row, x.K, size), full, row)
				refused(t, x, cut(row, x.K, size), full+1, api.ErrForm)
			}
		}
	})
}

// Every byte behind the object must be 0, in whichever shard it is.
func TestJoinOfBytesBehindTheObject(t *testing.T) {
	each(func(x api.Params) {
		w := written()[x.P]
		for _, length := range edges(x) {
			if length > 200 {
				continue
			}
			b := object(length)
			size := sizeOf(x, length)
			for place := w.ahead + length; place < x.K*size; place++ {
				for _, c := range []byte{1, 128, 255} {
					data := split(t, x, b)
					data[place/size][place%size] = c
					refused(t, x, data, length, api.ErrForm)
				}
			}
		}
	})
}

// Shards of the object's own bytes, but a unit longer than they need be, or more.
func TestJoinOfLongerShards(t *testing.T) {
	each(func(x api.Params) {
		w := written()[x.P]
		for _, length := range edges(x) {
			b := object(length)
			row := b
			if w.ahead == 4 {
				row = append(binary.BigEndian.AppendUint32(nil, uint32(length)), b...)
			}
			size := sizeOf(x, length)
			joins(t, x, cut(row, x.K, size), length, b)
			for _, more := range []int{1, 2, 3, 100} {
				refused(t, x, cut(row, x.K, size+more*w.unit), length, api.ErrForm)
			}
		}
	})
}

// The first n bytes are told, if shards of them are the same: 0s at an object's end may be its own or none of it.
func TestJoinOfFewerAndMoreBytes(t *testing.T) {
	for _, c := range []struct {
		p, k, n int
		b, want string
		e       api.Errno
	}{
		{api.JV, 2, 5, "abcde", "abcde", api.OK},
		{api.JV, 2, 6, "abcde", "abcde\x00", api.OK},
		{api.JV, 2, 16, "abcde", "abcde\x00\x00\x00\x00\x00\x00\x00\x00\x00\x00\x00", api.OK},
		{api.JV, 2, 17, "abcde", "", api.ErrForm},
		{api.JV, 2, 4, "abcde", "", api.ErrForm},
		{api.JV, 2, 3, "abc\x00\x00", "abc", api.OK},
		{api.JC, 1, 0, "\x00\x00\x00", "", api.OK},
		{api.JC, 1, 0, "\x00\x00\x01", "", api.ErrForm},
		{api.JC, 1, 8, "abcdefgh\x00", "", api.ErrForm},
		{api.IR, 2, 17, "abcdefghijklmnop\x00", "abcdefghijklmnop\x00", api.OK},
		{api.IC, 1, 4, "ab", "ab\x00\x00", api.OK},
		{api.IC, 1, 16, "abcdefghijklmnop", "abcdefghijklmnop", api.OK},
		{api.IC, 1, 1, "ab", "", api.ErrForm},
		{api.KP, 2, 6, "abcde", "abcde\x00", api.OK},
		{api.KP, 2, 4, "abcde", "", api.ErrForm},
		// Of four bytes, which are 0 behind the fourth one, shards are shorter.
		{api.KP, 2, 4, "abcd\x00", "", api.ErrForm},
		{api.KP, 3, 0, "\x00\x00\x00", "", api.OK},
		{api.KP, 3, 0, "\x00\x00\x00\x00", "", api.ErrForm},
		{api.BB, 2, 4, "abcde", "abcde", api.OK},
		{api.BB, 2, 5, "abcd\x00", "abcd\x00", api.OK},
	} {
		x := api.Params{P: c.p, K: c.k, M: 1}
		if got, e := Join(x, split(t, x, []byte(c.b)), c.n); string(got) != c.want || e != c.e {
			t.Errorf("Join(%+v) of the shards of %q, as %d bytes: %q, %v, not %q, %v", x, c.b, c.n, got, e, c.want, c.e)
		}
	}
}

// joined is Join, by the chapter's words alone, of K shards that are all as long, and of what is not refused for that.
func joined(x api.Params, data [][]byte, n int) ([]byte, api.Errno) {
	w := written()[x.P]
	row := bytes.Join(data, nil)
	if len(data[0]) == 0 || len(data[0])%w.unit != 0 || len(row) < w.ahead {
		return nil, api.ErrForm
	}
	if w.ahead == 4 {
		said := int64(binary.BigEndian.Uint32(row))
		row = row[4:]
		if said > 4096 {
			return nil, api.ErrForm
		}
		n = int(said)
	}
	if n < 0 || n > 4096 || n > len(row) || !same(shardsOf(x, row[:n]), data) {
		return nil, api.ErrForm
	}
	return row[:n], api.OK
}

// Short shards, with all numbers about: many of them are Split of some bytes, and many of none.
func TestJoinOfAnyShards(t *testing.T) {
	r := numbers()
	told := map[int]int{}
	each(func(x api.Params) {
		w := written()[x.P]
		for range 300 {
			data := zeros(x.K, r.Intn(4)*w.unit+r.Intn(8)/7)
			row := make([]byte, r.Intn(len(data)*len(data[0])+1))
			for i := range row {
				row[i] = byte(r.Intn(4))
			}
			if w.ahead == 4 && len(row) >= 4 {
				binary.BigEndian.PutUint32(row, uint32(len(row)-5+r.Intn(3)))
			}
			if len(data[0]) > 0 {
				data = cut(row, x.K, len(data[0]))
			}
			for n := len(row) - 3; n <= len(row)+3; n++ {
				want, e := joined(x, data, n)
				got, f := Join(x, data, n)
				if !bytes.Equal(got, want) || f != e {
					t.Fatalf("Join(%+v, %q, %d): %q, %v, not %q, %v", x, data, n, got, f, want, e)
				}
				if e == api.OK {
					told[x.P]++
				}
			}
		}
	})
	for p := 1; p <= 6; p++ {
		if told[p] < 100 {
			t.Errorf("of the profile %d just %d were told", p, told[p])
		}
	}
}

// Every call ends, at whatever arguments.
func TestCallsEnd(t *testing.T) {
	r := numbers()
	some := []int{math.MinInt, -1, 0, 1, 2, 3, 4, 5, 6, 7, 8, 9, 4096, 4097, math.MaxInt}
	for range 20000 {
		x := api.Params{P: some[r.Intn(len(some))], K: some[r.Intn(len(some))], M: some[r.Intn(len(some))]}
		n := some[r.Intn(len(some))]
		data := make([][]byte, r.Intn(10))
		for i := range data {
			data[i] = object(r.Intn(3) * 8)
		}
		Size(x, n)
		Split(x, object(r.Intn(20)))
		Join(x, data, n)
	}
}
