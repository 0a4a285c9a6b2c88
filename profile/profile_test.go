package profile

import (
	"math"
	"slices"
	"strings"
	"testing"

	"gambrel/api"
	"gambrel/cauchy"
	"gambrel/gf"
	"gambrel/jvan"
	"gambrel/matrix"
	"gambrel/poly"
	"gambrel/vander"
)

// written is the chapter's table, written out a second time, the numbers too.
func written() map[int]Profile {
	return map[int]Profile{
		1: {Tag: "jv", Bits: 8, Poly: 0x11D, Layout: 'j', MaxM: 4},
		2: {Tag: "jc", Bits: 16, Poly: 0x1100B, Layout: 'j', MaxM: 4},
		3: {Tag: "ir", Bits: 8, Poly: 0x11D, Layout: 'i', MaxM: 3},
		4: {Tag: "ic", Bits: 8, Poly: 0x11D, Layout: 'i', MaxM: 4},
		5: {Tag: "bb", Bits: 8, Poly: 0x11D, Layout: 'b', MaxM: 4},
		6: {Tag: "kp", Bits: 8, Poly: 0x11D, Layout: 'p', MaxM: 4},
	}
}

// strangers are what is no profile. Some would be one if bits of them were lost.
func strangers() []int {
	return []int{
		0, 7, 8, -1, -2, -6, -7, 255, 256, 257, 262, 1<<16 + 1, math.MaxInt32, math.MinInt32, 1<<32 + 1, 1<<32 + 6, 1 - 1<<32,
		math.MaxInt, math.MaxInt - 1, math.MaxInt - 5, math.MinInt, math.MinInt + 1, math.MinInt + 6,
	}
}

// edges are numbers of shards, most of which may not be.
func edges() []int {
	return []int{
		math.MinInt, math.MinInt + 1, math.MinInt + 4, math.MinInt32, -256, -9, -8, -4, -1, 0, 1, 2, 3, 4, 5, 6, 7, 8, 9, 10, 19, 20, 21,
		255, 256, 257, 1<<16 + 1, math.MaxInt32, 1<<32 + 1, 1<<32 + 4, math.MaxInt - 1, math.MaxInt,
	}
}

// params goes through all that may be.
func params(do func(x api.Params)) {
	for p := 1; p <= 6; p++ {
		for k := 1; k <= 8; k++ {
			for m := 1; m <= written()[p].MaxM; m++ {
				do(api.Params{P: p, K: k, M: m})
			}
		}
	}
}

// wrong goes through many that may not be: with a profile, and with none.
func wrong(do func(x api.Params)) {
	for p := 1; p <= 6; p++ {
		for _, k := range edges() {
			for _, m := range edges() {
				if k < 1 || k > 8 || m < 1 || m > written()[p].MaxM {
					do(api.Params{P: p, K: k, M: m})
				}
			}
		}
	}
	for _, p := range strangers() {
		for _, k := range edges() {
			for _, m := range edges() {
				do(api.Params{P: p, K: k, M: m})
			}
		}
	}
}

// same tells whether two matrices have the same rows.
func same(a, b matrix.Mat) bool {
	return slices.EqualFunc(a, b, func(x, y []int) bool { return slices.Equal(x, y) })
}

// parity is Parity where nothing may be refused.
func parity(t *testing.T, x api.Params) matrix.Mat {
	t.Helper()
	got, e := Parity(x)
	if e != api.OK {
		t.Fatalf("Parity(%+v): %v", x, e)
	}
	return got
}

func TestOfTellsTheTable(t *testing.T) {
	for p, want := range written() {
		if got, ok := Of(p); got != want || !ok {
			t.Errorf("Of(%d): %+v, %v, not %+v", p, got, ok, want)
		}
	}
	// The numbers' names stand for the same rows.
	for p, tag := range map[int]string{api.JV: "jv", api.JC: "jc", api.IR: "ir", api.IC: "ic", api.BB: "bb", api.KP: "kp"} {
		if got, _ := Of(p); got.Tag != tag {
			t.Errorf("Of(%d) has the tag %q, not %q", p, got.Tag, tag)
		}
	}
}

func TestOfNoProfile(t *testing.T) {
	for _, p := range strangers() {
		if got, ok := Of(p); got != (Profile{}) || ok {
			t.Errorf("Of(%d): %+v, %v", p, got, ok)
		}
	}
}

// Of all small numbers there are just these profiles.
func TestOfSmallNumbers(t *testing.T) {
	for p := -1000; p <= 1000; p++ {
		want, there := written()[p]
		if got, ok := Of(p); got != want || ok != there {
			t.Errorf("Of(%d): %+v, %v", p, got, ok)
		}
	}
}

func TestAll(t *testing.T) {
	if got := All(); !slices.Equal(got, []int{1, 2, 3, 4, 5, 6}) {
		t.Errorf("All: %v", got)
	}
}

func TestTagged(t *testing.T) {
	for p, row := range written() {
		if got, ok := Tagged(row.Tag); got != p || !ok {
			t.Errorf("Tagged(%q): %d, %v, not %d", row.Tag, got, ok, p)
		}
		// The same bytes elsewhere are the same tag.
		if got, ok := Tagged(strings.Clone(row.Tag)); got != p || !ok {
			t.Errorf("Tagged of a copy of %q: %d, %v, not %d", row.Tag, got, ok, p)
		}
	}
}

// noTag holds that there is no profile with that tag.
func noTag(t *testing.T, tag string) {
	t.Helper()
	if got, ok := Tagged(tag); got != 0 || ok {
		t.Errorf("Tagged(%q): %d, %v", tag, got, ok)
	}
}

func TestTaggedOfNone(t *testing.T) {
	for _, tag := range []string{
		"", " ", "\x00", "\x00\x00", "j", "i", "b", "p", "vj", "jr", "kb", "jvjc", "jv jc", "\xff\xfe", "ｊｖ", strings.Repeat("jv", 100000),
	} {
		noTag(t, tag)
	}
	for _, row := range written() {
		tag := row.Tag
		for _, other := range []string{
			tag[:1], tag[1:], tag + " ", " " + tag, tag + "\x00", "\x00" + tag, tag + "\n", tag + "x", "x" + tag, tag + tag,
			tag[:1] + " " + tag[1:], strings.ToUpper(tag), strings.ToUpper(tag[:1]) + tag[1:], tag[:1] + strings.ToUpper(tag[1:]),
		} {
			noTag(t, other)
		}
	}
}

// Of all texts of two bytes just the six are tags.
func TestTaggedOfTwoBytes(t *testing.T) {
	found := 0
	for a := range 256 {
		for b := range 256 {
			tag := string([]byte{byte(a), byte(b)})
			if p, ok := Tagged(tag); ok {
				found++
				if written()[p].Tag != tag {
					t.Errorf("Tagged(%q): %d", tag, p)
				}
			}
		}
	}
	if found != 6 {
		t.Errorf("%d tags of two bytes", found)
	}
}

func TestMayOfAllThatMayBe(t *testing.T) {
	count := 0
	params(func(x api.Params) {
		count++
		if !May(x) {
			t.Errorf("May(%+v) is false", x)
		}
	})
	if count != 8*(5*4+3) {
		t.Fatalf("%d params were asked", count)
	}
}

func TestMayAtTheEdges(t *testing.T) {
	for p, row := range written() {
		for _, c := range []struct {
			k, m int
			want bool
		}{
			{1, 1, true}, {8, 1, true}, {1, row.MaxM, true}, {8, row.MaxM, true},
			{0, 1, false}, {9, 1, false}, {-1, 1, false}, {math.MinInt, 1, false}, {math.MaxInt, 1, false},
			{1, 0, false}, {1, row.MaxM + 1, false}, {1, -1, false}, {1, math.MinInt, false}, {1, math.MaxInt, false},
			{0, 0, false}, {9, row.MaxM + 1, false}, {-1, -1, false}, {8, row.MaxM + 1, false}, {9, row.MaxM, false},
		} {
			x := api.Params{P: p, K: c.k, M: c.m}
			if got := May(x); got != c.want {
				t.Errorf("May(%+v): %v", x, got)
			}
		}
	}
	// A fourth parity shard sets IR apart from all others.
	for p := 1; p <= 6; p++ {
		if got := May(api.Params{P: p, K: 8, M: 4}); got != (p != 3) {
			t.Errorf("four parity shards of %d: %v", p, got)
		}
	}
}

func TestMayOfWrongParams(t *testing.T) {
	wrong(func(x api.Params) {
		if May(x) {
			t.Errorf("May(%+v)", x)
		}
	})
	if May(api.Params{}) {
		t.Error("zero params may be")
	}
}

func TestFieldOfNoProfile(t *testing.T) {
	for _, p := range strangers() {
		if Field(p) != nil {
			t.Errorf("Field(%d) is there", p)
		}
	}
}

// A field is the table's: of its width, and its products are those modulo its polynomial.
func TestFieldIsTheTables(t *testing.T) {
	for p, row := range written() {
		f := Field(p)
		if f == nil || f.Bits() != row.Bits || f.Size() != 1<<row.Bits {
			t.Fatalf("Field(%d) has %d bits", p, f.Bits())
		}
		if got := f.Exp(row.Bits); got != int(row.Poly)-f.Size() {
			t.Errorf("Field(%d) is not by %#x: 2 to the power of %d is %d", p, row.Poly, row.Bits, got)
		}
		for a := 0; a < f.Size(); a += 1 + f.Size()/256 {
			for _, b := range []int{0, 1, 2, 3, 29, 128, 142, 255, f.Size() / 2, f.Size() - 1} {
				want := poly.MulMod(uint32(a), uint32(b), row.Poly)
				if got := f.Mul(a, b); got != int(want) {
					t.Errorf("Field(%d): %d times %d is %d, not %d", p, a, b, got, want)
				}
			}
		}
	}
}

func TestParityAsItIsWritten(t *testing.T) {
	for _, c := range []struct {
		x    api.Params
		want matrix.Mat
	}{
		{api.Params{P: api.JV, K: 1, M: 1}, matrix.Mat{{1}}},
		{api.Params{P: api.JV, K: 2, M: 2}, matrix.Mat{{1, 1}, {1, 143}}},
		{api.Params{P: api.JV, K: 8, M: 1}, matrix.Mat{{1, 1, 1, 1, 1, 1, 1, 1}}},
		// The inverses of 1, 2 and 3 by 0x1100B are 1, 0x8805 and 0xF006.
		{api.Params{P: api.JC, K: 1, M: 1}, matrix.Mat{{1}}},
		{api.Params{P: api.JC, K: 3, M: 1}, matrix.Mat{{1, 0x8805, 0xF006}}},
		{api.Params{P: api.JC, K: 2, M: 2}, matrix.Mat{{0x8805, 0xF006}, {0xF006, 0x8805}}},
		{api.Params{P: api.IR, K: 2, M: 2}, matrix.Mat{{1, 1}, {1, 2}}},
		{api.Params{P: api.IR, K: 4, M: 3}, matrix.Mat{{1, 1, 1, 1}, {1, 2, 4, 8}, {1, 4, 16, 64}}},
		{api.Params{P: api.IR, K: 5, M: 3}, matrix.Mat{{1, 1, 1, 1, 1}, {1, 2, 4, 8, 16}, {1, 4, 16, 64, 29}}},
		// The inverses of 1, 2 and 3 by 0x11D are 1, 142 and 244.
		{api.Params{P: api.IC, K: 3, M: 1}, matrix.Mat{{244, 142, 1}}},
		{api.Params{P: api.IC, K: 2, M: 2}, matrix.Mat{{142, 244}, {244, 142}}},
		{api.Params{P: api.BB, K: 2, M: 2}, matrix.Mat{{3, 2}, {2, 3}}},
		// As remembered from what Backblaze tells of its code, not copied from it.
		{api.Params{P: api.BB, K: 4, M: 2}, matrix.Mat{{0x1B, 0x1C, 0x12, 0x14}, {0x1C, 0x1B, 0x14, 0x12}}},
		{api.Params{P: api.KP, K: 2, M: 1}, matrix.Mat{{3, 2}}},
		{api.Params{P: api.KP, K: 4, M: 2}, matrix.Mat{{0x1B, 0x1C, 0x12, 0x14}, {0x1C, 0x1B, 0x14, 0x12}}},
	} {
		if got := parity(t, c.x); !same(got, c.want) {
			t.Errorf("Parity(%+v): %v, not %v", c.x, got, c.want)
		}
	}
}

// rowsOf are the parity rows that the chapter's table names, in the field that it names, made without this package.
func rowsOf(t *testing.T, x api.Params) matrix.Mat {
	t.Helper()
	narrow, wide := gf.New(8, 0x11D), gf.New(16, 0x1100B)
	var rows matrix.Mat
	var e api.Errno
	switch x.P {
	case 1:
		rows, e = jvan.Parity(narrow, x.K, x.M)
	case 2:
		rows, e = cauchy.Orig(wide, x.K, x.M)
	case 3:
		rows, e = vander.Isal(narrow, x.K, x.M)
	case 4:
		rows, e = cauchy.Isal(narrow, x.K, x.M)
	case 5, 6:
		rows, e = vander.System(narrow, x.K, x.M)
		if len(rows) != x.K+x.M || !same(rows[:x.K], matrix.Identity(x.K)) {
			t.Fatalf("System of %+v: %v", x, rows)
		}
		rows = rows[x.K:]
	}
	if e != api.OK {
		t.Fatalf("rows of %+v: %v", x, e)
	}
	return rows
}

func TestParityIsTheTables(t *testing.T) {
	params(func(x api.Params) {
		got := parity(t, x)
		if want := rowsOf(t, x); !same(got, want) {
			t.Errorf("Parity(%+v): %v, not %v", x, got, want)
		}
		if len(got) != x.M || len(got[0]) != x.K || !matrix.May(Field(x.P), got) {
			t.Errorf("Parity(%+v) is %v, no matrix of its field", x, got)
		}
	})
}

// With three rows of three numbers and more no profile's rows are another's, but those of BB and KP.
func TestParityTellsProfilesApart(t *testing.T) {
	for p := 1; p <= 6; p++ {
		for q := 1; q < p; q++ {
			for k := 3; k <= 8; k++ {
				a, b := parity(t, api.Params{P: p, K: k, M: 3}), parity(t, api.Params{P: q, K: k, M: 3})
				if same(a, b) != (p == 6 && q == 5) {
					t.Errorf("the rows of %d and %d, of %d: %v and %v", p, q, k, a, b)
				}
			}
		}
	}
}

func TestParityOfWrongParams(t *testing.T) {
	wrong(func(x api.Params) {
		if got, e := Parity(x); len(got) != 0 || e != api.ErrArg {
			t.Errorf("Parity(%+v): %v, %v, not refused", x, got, e)
		}
	})
	if got, e := Parity(api.Params{}); len(got) != 0 || e != api.ErrArg {
		t.Errorf("Parity of zero params: %v, %v", got, e)
	}
}

// Parity is refused just where May is false.
func TestParityIsToldWhereParamsMayBe(t *testing.T) {
	for p := -1; p <= 8; p++ {
		for k := -1; k <= 10; k++ {
			for m := -1; m <= 6; m++ {
				x := api.Params{P: p, K: k, M: m}
				_, there := written()[p]
				want := there && k >= 1 && k <= 8 && m >= 1 && m <= written()[p].MaxM
				got, e := Parity(x)
				if May(x) != want || (e == api.OK) != want || (len(got) != 0) != want {
					t.Errorf("%+v: %v, %v, %v", x, May(x), got, e)
				}
			}
		}
	}
}
