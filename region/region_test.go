package region

import (
	"bytes"
	"math"
	"math/rand"
	"slices"
	"testing"

	"gambrel/api"
	"gambrel/gf"
)

// numbers are a source of test inputs that is the same in each run.
func numbers() *rand.Rand { return rand.New(rand.NewSource(3)) }

// fields are the profiles' two, and another of each width, so that one that is not asked is found out.
func fields(t *testing.T) []*gf.Field {
	t.Helper()
	list := []*gf.Field{gf.New(8, 0x11D), gf.New(16, 0x1100B), gf.New(8, 0x12B), gf.New(16, 0x1002D)}
	if slices.Contains(list, nil) {
		t.Fatal("a field is nil")
	}
	return list
}

// some are n bytes by chance.
func some(r *rand.Rand, n int) []byte {
	b := make([]byte, n)
	r.Read(b)
	return b
}

// strangers are what is no number of the field.
func strangers(f *gf.Field) []int {
	size := f.Size()
	return []int{-1, -2, -size, -size + 1, math.MinInt, math.MinInt32, size, size + 1, 2*size - 1, 2 * size, 1 << 32, 1<<32 + 1, math.MaxInt32, math.MaxInt}
}

// slowWords takes the numbers from the bytes by their widths alone.
func slowWords(f *gf.Field, b []byte) []int {
	var l []int
	if f.Bits() == 8 {
		for _, part := range b {
			l = append(l, int(part))
		}
		return l
	}
	for i := 0; i+1 < len(b); i += 2 {
		l = append(l, int(b[i])+256*int(b[i+1]))
	}
	return l
}

// slowBytes is the other way round.
func slowBytes(f *gf.Field, l []int) []byte {
	var b []byte
	for _, n := range l {
		b = append(b, byte(n%256))
		if f.Bits() == 16 {
			b = append(b, byte(n/256))
		}
	}
	return b
}

// slowDot adds up products number by number, across the rows.
func slowDot(f *gf.Field, c []int, rows [][]byte) []byte {
	total := make([]int, len(slowWords(f, rows[0])))
	for i, row := range rows {
		for j, n := range slowWords(f, row) {
			total[j] ^= f.Mul(n, c[i])
		}
	}
	return slowBytes(f, total)
}

// wantBytes holds what a call told against the bytes that are asked for.
func wantBytes(t *testing.T, what string, got []byte, e api.Errno, want []byte) {
	t.Helper()
	if e != api.OK || !bytes.Equal(got, want) {
		t.Errorf("%s: % x, %v, not % x", what, got, e, want)
	}
}

// refused holds that a call told ErrArg, and no bytes.
func refused(t *testing.T, what string, got []byte, e api.Errno) {
	t.Helper()
	if e != api.ErrArg || len(got) != 0 {
		t.Errorf("%s: % x, %v, not refused", what, got, e)
	}
}

func TestWordsAsTheyAreWritten(t *testing.T) {
	narrow, wide := gf.New(8, 0x11D), gf.New(16, 0x1100B)
	for _, c := range []struct {
		f *gf.Field
		b []byte
		l []int
	}{
		{wide, []byte{1, 2}, []int{513}},
		{wide, []byte{1, 2, 255, 0, 0, 255, 255, 255, 0, 0}, []int{513, 255, 0xFF00, 0xFFFF, 0}},
		{narrow, []byte{1, 2, 255, 0}, []int{1, 2, 255, 0}},
		{narrow, []byte{7}, []int{7}},
		{narrow, nil, nil},
		{wide, nil, nil},
		{narrow, []byte{}, nil},
		{wide, []byte{}, nil},
	} {
		if l, e := Words(c.f, c.b); e != api.OK || !slices.Equal(l, c.l) {
			t.Errorf("Words of %d bits of % x: %v, %v", c.f.Bits(), c.b, l, e)
		}
		b, e := Bytes(c.f, c.l)
		wantBytes(t, "Bytes", b, e, c.b)
	}
	b, e := Bytes(wide, []int{})
	wantBytes(t, "Bytes of none", b, e, nil)
}

func TestWordsOfAnOddNumberOfBytes(t *testing.T) {
	for _, f := range fields(t) {
		for n := range 20 {
			l, e := Words(f, make([]byte, n))
			if f.Bits() == 16 && n%2 == 1 {
				if e != api.ErrArg || len(l) != 0 {
					t.Errorf("%d bytes: %v, %v", n, l, e)
				}
				continue
			}
			if e != api.OK || len(l) != n*8/f.Bits() {
				t.Errorf("%d bits, %d bytes: %v, %v", f.Bits(), n, l, e)
			}
		}
	}
}

func TestBytesOfWhatIsNoNumber(t *testing.T) {
	for _, f := range fields(t) {
		for _, n := range strangers(f) {
			for _, l := range [][]int{{n}, {1, n}, {n, 1}, {0, n, 2}} {
				b, e := Bytes(f, l)
				refused(t, "Bytes", b, e)
			}
		}
		last := f.Size() - 1
		b, e := Bytes(f, []int{0, last})
		wantBytes(t, "the lowest and the highest number", b, e, slowBytes(f, []int{0, last}))
	}
}

func TestMulAsItIsWritten(t *testing.T) {
	narrow, wide := gf.New(8, 0x11D), gf.New(16, 0x1100B)
	for _, c := range []struct {
		f       *gf.Field
		c       int
		b, want []byte
	}{
		{narrow, 2, []byte{1, 128, 0}, []byte{2, 29, 0}},
		{narrow, 1, []byte{1, 128, 0}, []byte{1, 128, 0}},
		{narrow, 0, []byte{1, 128, 0}, []byte{0, 0, 0}},
		{narrow, 142, []byte{2}, []byte{1}},
		{wide, 2, []byte{1, 2}, []byte{2, 4}},
		{wide, 2, []byte{0, 128}, []byte{0x0B, 0x10}},
		{wide, 256, []byte{1, 0, 0, 1}, []byte{0, 1, 0x0B, 0x10}},
		{narrow, 255, nil, nil},
		{wide, 65535, []byte{}, nil},
	} {
		b, e := Mul(c.f, c.c, c.b)
		wantBytes(t, "Mul", b, e, c.want)
	}
}

func TestMulIsGfMulOfEachNumber(t *testing.T) {
	r := numbers()
	for _, f := range fields(t) {
		for range 300 {
			c, row := r.Intn(f.Size()), some(r, 2*r.Intn(40))
			b, e := Mul(f, c, row)
			wantBytes(t, "Mul", b, e, slowDot(f, []int{c}, [][]byte{row}))
		}
		for _, c := range []int{0, 1, 2, f.Size() - 1} {
			row := some(r, 64)
			b, e := Mul(f, c, row)
			wantBytes(t, "Mul by an edge", b, e, slowDot(f, []int{c}, [][]byte{row}))
		}
	}
	every := make([]byte, 256)
	for i := range every {
		every[i] = byte(i)
	}
	for c := range 256 {
		f := fields(t)[0]
		b, e := Mul(f, c, every)
		wantBytes(t, "Mul of every byte", b, e, slowDot(f, []int{c}, [][]byte{every}))
	}
}

func TestMulOfWhatMayNotBe(t *testing.T) {
	for _, f := range fields(t) {
		for _, c := range strangers(f) {
			for _, row := range [][]byte{nil, {}, {0, 0}, {1, 2}, {1}} {
				b, e := Mul(f, c, row)
				refused(t, "by what is no number", b, e)
			}
		}
		b, e := Mul(f, 1, []byte{1, 2, 3})
		if f.Bits() == 8 {
			wantBytes(t, "three bytes", b, e, []byte{1, 2, 3})
			continue
		}
		refused(t, "an odd number of bytes", b, e)
		b, e = Mul(f, 0, []byte{1})
		refused(t, "one byte, by 0", b, e)
	}
}

func TestAdd(t *testing.T) {
	for _, c := range []struct{ a, b, want []byte }{
		{[]byte{5}, []byte{6}, []byte{3}},
		{[]byte{1, 2, 255}, []byte{1, 4, 0}, []byte{0, 6, 255}},
		{[]byte{0xF0, 0}, []byte{0x0F, 0}, []byte{0xFF, 0}},
		{nil, nil, nil},
		{nil, []byte{}, nil},
		{[]byte{}, nil, nil},
	} {
		b, e := Add(c.a, c.b)
		wantBytes(t, "Add", b, e, c.want)
	}
	for _, c := range [][2][]byte{{{1}, nil}, {nil, {1}}, {{1}, {}}, {{1, 2}, {1}}, {{1}, {1, 2}}, {{1, 2, 3}, {1, 2}}} {
		b, e := Add(c[0], c[1])
		refused(t, "unlike lengths", b, e)
	}
}

func TestAddGoesByteByByte(t *testing.T) {
	r := numbers()
	for n := range 70 {
		a, b := some(r, n), some(r, n)
		want := make([]byte, n)
		for i := range want {
			want[i] = a[i] ^ b[i]
		}
		got, e := Add(a, b)
		wantBytes(t, "Add", got, e, want)
	}
}

func TestDotAsItIsWritten(t *testing.T) {
	narrow, wide := gf.New(8, 0x11D), gf.New(16, 0x1100B)
	for _, c := range []struct {
		f    *gf.Field
		c    []int
		rows [][]byte
		want []byte
	}{
		{narrow, []int{1, 2}, [][]byte{{1, 2}, {3, 4}}, []byte{7, 10}},
		{narrow, []int{2, 1}, [][]byte{{1, 2}, {3, 4}}, []byte{1, 0}},
		{narrow, []int{1, 1, 1}, [][]byte{{1}, {2}, {4}}, []byte{7}},
		{narrow, []int{0, 0}, [][]byte{{1}, {2}}, []byte{0}},
		{narrow, []int{2}, [][]byte{{128}}, []byte{29}},
		{wide, []int{1, 2}, [][]byte{{1, 2}, {0, 128}}, []byte{0x0A, 0x12}},
		{narrow, []int{5}, [][]byte{nil}, nil},
		{wide, []int{5, 65535}, [][]byte{nil, {}}, nil},
	} {
		b, e := Dot(c.f, c.c, c.rows)
		wantBytes(t, "Dot", b, e, c.want)
	}
}

func TestDotIsTheSumOfProducts(t *testing.T) {
	r := numbers()
	for _, f := range fields(t) {
		for count := 1; count <= 20; count++ {
			n := 2 * r.Intn(30)
			c, rows := make([]int, count), make([][]byte, count)
			for i := range rows {
				c[i], rows[i] = r.Intn(f.Size()), some(r, n)
			}
			b, e := Dot(f, c, rows)
			wantBytes(t, "Dot", b, e, slowDot(f, c, rows))
		}
	}
}

func TestDotOfWhatMayNotBe(t *testing.T) {
	for _, f := range fields(t) {
		for _, c := range []struct {
			what string
			c    []int
			rows [][]byte
		}{
			{"none", nil, nil},
			{"none at all", []int{}, [][]byte{}},
			{"no rows", []int{1}, nil},
			{"no numbers", nil, [][]byte{{1, 2}}},
			{"more rows", []int{1}, [][]byte{{1, 2}, {3, 4}}},
			{"fewer rows", []int{1, 2, 3}, [][]byte{{1, 2}, {3, 4}}},
			{"the last is shorter", []int{1, 2}, [][]byte{{1, 2, 3, 4}, {3, 4}}},
			{"the last is longer", []int{1, 2}, [][]byte{{1, 2}, {3, 4, 5, 6}}},
			{"the first is shorter", []int{1, 2, 3}, [][]byte{{1, 2}, {3, 4, 5, 6}, {3, 4, 5, 6}}},
			{"the middle is shorter", []int{1, 2, 3}, [][]byte{{1, 2, 3, 4}, {3, 4}, {3, 4, 5, 6}}},
			{"one is empty", []int{1, 2}, [][]byte{{1, 2}, nil}},
			{"the first is empty", []int{1, 2}, [][]byte{nil, {1, 2}}},
		} {
			b, e := Dot(f, c.c, c.rows)
			refused(t, c.what, b, e)
		}
		for _, n := range strangers(f) {
			for _, c := range [][]int{{n, 1}, {1, n}, {n, n}} {
				b, e := Dot(f, c, [][]byte{{1, 2}, {3, 4}})
				refused(t, "by what is no number", b, e)
				b, e = Dot(f, c, [][]byte{nil, nil})
				refused(t, "by what is no number, without bytes", b, e)
			}
		}
		b, e := Dot(f, []int{0, 1}, [][]byte{{1}, {2}})
		if f.Bits() == 8 {
			wantBytes(t, "a byte each", b, e, []byte{2})
			continue
		}
		refused(t, "an odd number of bytes", b, e)
	}
}

func TestNoFieldIsRefused(t *testing.T) {
	for _, b := range [][]byte{nil, {}, {0}, {1, 2}} {
		if l, e := Words(nil, b); e != api.ErrArg || len(l) != 0 {
			t.Errorf("Words: %v, %v", l, e)
		}
		for _, c := range []int{math.MinInt, -1, 0, 1, 255, 256, 65536, math.MaxInt} {
			got, e := Mul(nil, c, b)
			refused(t, "Mul", got, e)
			got, e = Dot(nil, []int{c}, [][]byte{b})
			refused(t, "Dot", got, e)
		}
	}
	for _, l := range [][]int{nil, {}, {0}, {1, 2}} {
		b, e := Bytes(nil, l)
		refused(t, "Bytes", b, e)
	}
}
