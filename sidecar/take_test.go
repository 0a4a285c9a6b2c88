package sidecar

import (
	"bytes"
	"encoding/binary"
	"fmt"
	"slices"
	"strings"
	"testing"

	"gambrel/api"
)

func TestTakeAsItIsWritten(t *testing.T) {
	for b, m := range written() {
		wantTaken(t, []byte(b), m)
	}
}

func TestTakeByTheWords(t *testing.T) {
	r := numbers()
	params(func(x api.Params) {
		metas(r, x, func(m Meta) { wantTaken(t, laid(m), m) })
	})
}

func TestTakeOfEachSize(t *testing.T) {
	for p, f := range forms() {
		for size := 0; size <= 4200; size++ {
			m := Meta{X: api.Params{P: p, K: 1, M: 1}, Size: size, Sums: []uint32{1, 2}}
			if !f.sized {
				m.Size = 0
			}
			if m.Size <= 4096 {
				wantTaken(t, laid(m), m)
			} else {
				none(t, "too large a size", laid(m))
			}
		}
	}
}

func TestTakeOfNoBytes(t *testing.T) {
	none(t, "nil", nil)
	none(t, "empty", []byte{})
	none(t, "empty, of others", []byte("KPRS")[:0])
	for p := api.JV; p <= api.KP; p++ {
		none(t, "a sum alone", sealed(p, nil))
	}
}

// A sidecar that is cut off is none, whether its sum is that of what is left or not.
func TestTakeOfWhatIsShorter(t *testing.T) {
	r := numbers()
	fewAndMany(func(x api.Params) {
		m := some(r, x)
		m.Size = 0 // Of more figures fewer would be a size, too.
		b := put(t, m)
		head := unsealed(x.P, b)
		for n := range b {
			none(t, "shorter", b[:n])
			none(t, "shorter at its head", b[n+1:])
		}
		for n := range head {
			none(t, "shorter, and its sum is right", sealed(x.P, head[:n]))
			none(t, "shorter at its head, and its sum is right", sealed(x.P, head[n+1:]))
			none(t, "shorter amid, and its sum is right", sealed(x.P, slices.Delete(slices.Clone(head), n, n+1)))
		}
	})
}

func TestTakeOfWhatIsLonger(t *testing.T) {
	r := numbers()
	fewAndMany(func(x api.Params) {
		m := some(r, x)
		m.Size = 0 // Other figures, twice, would be a size, too.
		b := put(t, m)
		head := unsealed(x.P, b)
		for one := range 256 {
			more := []byte{byte(one)}
			none(t, "a byte behind", slices.Concat(b, more))
			none(t, "a byte ahead", slices.Concat(more, b))
			none(t, "a byte behind, and its sum is right", sealed(x.P, slices.Concat(head, more)))
			none(t, "a byte ahead, and its sum is right", sealed(x.P, slices.Concat(more, head)))
			none(t, "a byte behind all, and its sum is right", sealed(x.P, slices.Concat(b, more)))
		}
		for n := range 10 {
			none(t, "0s behind", slices.Concat(b, make([]byte, n+1)))
			none(t, "0s behind, and its sum is right", sealed(x.P, slices.Concat(head, make([]byte, n+1))))
		}
		none(t, "twice", slices.Concat(b, b))
		none(t, "with its sum, and the sum of both", sealed(x.P, b))
		for n := range head {
			none(t, "a byte amid, and its sum is right", sealed(x.P, slices.Insert(slices.Clone(head), n, head[n])))
		}
	})
}

// The sum is right, but those of another layout, or another profile, begin so.
func TestTakeOfAnotherHead(t *testing.T) {
	r := numbers()
	fewAndMany(func(x api.Params) {
		own := forms()[x.P]
		rest := unsealed(x.P, put(t, some(r, x)))[len(own.head):]
		for _, head := range []string{
			"", "Jerasure reed_sol_van\n", "jerasure", "jerasure ", "jerasure\n", "jerasure  reed_sol_van\n", "jerasure reed_sol_van", "jerasure reed_sol_van ",
			"jerasure reed_sol_r6_op\n", "jerasure cauchy_good\n", "jerasure cauchy_orig\r\n", "jerasure cauchy_orig\n\n", "jerasure\x00cauchy_orig\n",
			"ISAL", "ISAL\x00", "ISAL\x03", "ISAL\xff", "ISAl\x01", "isal\x01", "LASI\x01", "ISAL1", "\x01ISAL",
			"BBRS\x01", "BBRs", "bbrs", "SRBB", "KPRS\x01", "KPRs", "kprs", "SRPK", "BPRS", "KBRS", "\x00\x00\x00\x00",
		} {
			none(t, "another head", sealed(x.P, slices.Concat([]byte(head), rest)))
		}
		for p, f := range forms() {
			// One of either method has other Bits; one of another layout other bytes.
			if b := slices.Concat([]byte(f.head), rest); f.order != own.order || f.sized != own.sized || own.order == nil && p != x.P {
				none(t, "another's head", sealed(x.P, b))
				none(t, "another's head and sum", sealed(p, b))
			}
		}
	})
}

// With the other's head, and the sum of that, ISA-L's sidecars are the other profile's, if there may be such.
func TestTakeOfIsalsProfiles(t *testing.T) {
	r := numbers()
	for k := 1; k <= 8; k++ {
		for m := 1; m <= 4; m++ {
			meta := some(r, api.Params{P: api.IC, K: k, M: m})
			b := unsealed(api.IC, put(t, meta))
			for profile := range 256 {
				b[4] = byte(profile)
				switch {
				case profile == 1 && m <= 3:
					wantTaken(t, sealed(api.IR, b), Meta{X: api.Params{P: api.IR, K: k, M: m}, Size: meta.Size, Sums: meta.Sums})
				case profile == 2:
					wantTaken(t, sealed(api.IC, b), meta)
				default:
					none(t, "no profile, or too many shards", sealed(api.IC, b))
				}
			}
		}
	}
}

// The sum is right, but there may not be so many shards, or there are other sums than so many.
func TestTakeOfShardsThatMayNotBe(t *testing.T) {
	for p, f := range forms() {
		for k := range 12 {
			for m := range 7 {
				for n := range 17 {
					meta := Meta{X: api.Params{P: p, K: k, M: m}, Sums: slices.Repeat([]uint32{0x01000102}, n)}
					if k >= 1 && k <= 8 && m >= 1 && m <= f.maxM && n == k+m {
						wantTaken(t, laid(meta), meta)
					} else {
						none(t, "shards that may not be", laid(meta))
					}
				}
			}
		}
		for _, k := range []int{127, 128, 200, 254, 255} {
			none(t, "many data shards", laid(Meta{X: api.Params{P: p, K: k, M: 1}, Sums: make([]uint32, k+1)}))
			none(t, "many parity shards", laid(Meta{X: api.Params{P: p, K: 1, M: k}, Sums: make([]uint32, k+1)}))
			none(t, "many of both", laid(Meta{X: api.Params{P: p, K: k, M: k}, Sums: make([]uint32, 2*k)}))
		}
	}
}

// The sum is right, but the size is beyond what may be, up to what four bytes hold.
func TestTakeOfSizesThatMayNotBe(t *testing.T) {
	for p, f := range forms() {
		if !f.sized {
			continue
		}
		for _, size := range []int{4097, 4098, 8192, 65535, 65536, 1 << 24, 1<<31 - 1, 1 << 31, 1<<31 + 1, 1<<32 - 4096, 1<<32 - 1} {
			none(t, "too large", laid(Meta{X: api.Params{P: p, K: 1, M: 1}, Size: size, Sums: []uint32{1, 2}}))
		}
	}
	for _, p := range []int{api.JV, api.JC} {
		for _, size := range []int{-1, -4096, 1 << 32, 1<<32 + 1, 1<<62 + 5} {
			none(t, "too small or large", laid(Meta{X: api.Params{P: p, K: 1, M: 1}, Size: size, Sums: []uint32{1, 2}}))
		}
	}
}

// With a size b's layout is none: it has four bytes more, and they are no sum's.
func TestTakeOfASizeThatStandsInTheShards(t *testing.T) {
	for _, size := range []uint32{0, 1, 5, 4096} {
		b := []byte("BBRS\x01\x01")
		b = binary.BigEndian.AppendUint32(b, size)
		b = append(b, "\x00\x00\x00\x01\x00\x00\x00\x02"...)
		none(t, "a size", sealed(api.BB, b))
	}
	none(t, "without a size", sealed(api.KP, []byte("KPRS\x01\x01\x00\x00\x00\x01\x00\x00\x00\x02")))
	none(t, "without a size", sealed(api.IC, []byte("ISAL\x01\x01\x01\x01\x00\x00\x00\x02\x00\x00\x00")))
}

// The highest byte first is the lowest first of ISA-L's, and the other way round.
func TestTakeOfBytesTurnedRound(t *testing.T) {
	x := "\x01\x01\x00\x00\x01\x02\x00\x00\x00\x01\x00\x00\x00\x02"
	wantTaken(t, sealed(api.KP, []byte("KPRS"+x)), Meta{X: api.Params{P: api.KP, K: 1, M: 1}, Size: 258, Sums: []uint32{1, 2}})
	none(t, "its sum the other way round", sealed(api.IC, []byte("KPRS"+x)))
	none(t, "its size the other way round", sealed(api.KP, []byte("KPRS\x01\x01\x02\x01\x00\x00\x00\x00\x00\x01\x00\x00\x00\x02")))
	x = "\x01\x01\x02\x01\x00\x00\x01\x00\x00\x00\x02\x00\x00\x00"
	wantTaken(t, sealed(api.IC, []byte("ISAL\x02"+x)), Meta{X: api.Params{P: api.IC, K: 1, M: 1}, Size: 258, Sums: []uint32{1, 2}})
	none(t, "its sum the other way round", sealed(api.KP, []byte("ISAL\x02"+x)))
	none(t, "its size the other way round", sealed(api.IC, []byte("ISAL\x02\x01\x01\x00\x00\x01\x02\x01\x00\x00\x00\x02\x00\x00\x00")))
	none(t, "its sum the other way round", sealed(api.IC, []byte("BBRS\x01\x01\x00\x00\x00\x01\x00\x00\x00\x02")))
	none(t, "its sum as a text", sealed(api.JV, []byte("BBRS\x01\x01\x00\x00\x00\x01\x00\x00\x00\x02")))
}

// text is a sidecar of Jerasure's, of these lines behind the first one, whose sum is right.
func text(method string, lines ...string) []byte {
	return sealed(api.JV, []byte("jerasure "+method+"\n"+strings.Join(lines, "")))
}

func TestTakeOfOtherFigures(t *testing.T) {
	want := Meta{X: api.Params{P: api.JC, K: 2, M: 1}, Size: 12, Sums: []uint32{0, 0xABC, 0x1000000F}}
	sums := "00000000\n00000abc\n1000000f\n"
	wantTaken(t, text("cauchy_orig", "12 2 1 16\n", sums), want)
	for _, figures := range []string{
		"012 2 1 16\n", "12 02 1 16\n", "12 2 01 16\n", "12 2 1 016\n", "+12 2 1 16\n", "12 +2 1 16\n", "12 2 +1 16\n", "12 2 1 +16\n",
		"-12 2 1 16\n", "12 -2 1 16\n", "12 2 -1 16\n", "12 2 1 -16\n", "-0 2 1 16\n", "00 2 1 16\n",
		" 12 2 1 16\n", "12  2 1 16\n", "12 2  1 16\n", "12 2 1  16\n", "12 2 1 16 \n", "12 2 1 16\r\n", "12\t2 1 16\n", "12 2\t1 16\n", "12 2 1\t16\n", "12,2 1 16\n",
		"12 2 1\n", "12 2\n", "12\n", "\n", "", "2 1 16\n", "12 2 1 \n", "12 2  16\n", "12  1 16\n", " 2 1 16\n", "   \n", "  \n",
		"12 2 1 16 0\n", "12 2 1 16 8\n", "0 12 2 1 16\n", "12 2 1 8\n", "12 2 1 0\n", "12 2 1 17\n", "12 2 1 32\n", "12 2 1 1\n", "12 2 1 160\n", "12 2 1 x\n",
		"0x0c 2 1 16\n", "0xc 2 1 16\n", "c 2 1 16\n", "1_2 2 1 16\n", "1e1 2 1 16\n", "12.0 2 1 16\n", "٣ 2 1 16\n", "12 2 1 16\x00\n", "\x0012 2 1 16\n",
		"4294967308 2 1 16\n", "18446744073709551628 2 1 16\n", "99999999999999999999 2 1 16\n", "12 258 1 16\n", "12 2 257 16\n", "12 18446744073709551618 1 16\n", "4097 2 1 16\n", "10000 2 1 16\n",
		"12 1 2 16", "12 2 1 16", "12 2 1 16\n\n", "\n12 2 1 16\n", "12 2 1 16\n12 2 1 16\n", "12\n2\n1\n16\n",
	} {
		none(t, "other figures", text("cauchy_orig", figures, sums))
	}
	none(t, "another's Bits", text("reed_sol_van", "12 2 1 16\n", sums))
	want.X.P = api.JV
	wantTaken(t, text("reed_sol_van", "12 2 1 8\n", sums), want)
}

func TestTakeOfOtherSums(t *testing.T) {
	head := "12 2 1 16\n"
	for _, sums := range []string{
		"00000000\n00000ABC\n1000000f\n", "00000000\n00000abc\n1000000F\n", "00000000\nabc\n1000000f\n", "0\n00000abc\n1000000f\n", "00000000\n000000abc\n1000000f\n", "\n00000abc\n1000000f\n",
		"00000000\n     abc\n1000000f\n", "00000000\n00000abc \n1000000f\n", " 00000000\n00000abc\n1000000f\n", "00000000\n0000abc \n1000000f\n",
		"00000000\n+0000abc\n1000000f\n", "-0000000\n00000abc\n1000000f\n", "+0000000\n00000abc\n1000000f\n", "00000000\n0x000abc\n1000000f\n", "00000000\n0000_abc\n1000000f\n",
		"00000000\n00000abg\n1000000f\n", "0000000O\n00000abc\n1000000f\n", "00000000\r\n00000abc\n1000000f\n", "\x00\x00\x00\x00\n00000abc\n1000000f\n",
		"00000000 00000abc\n1000000f\n", "00000000\n00000abc 1000000f\n", "0000000000000abc\n1000000f\n", "00000000\n\n00000abc\n1000000f\n",
		"00000000\n00000abc\n", "00000000\n", "", "\n", "\n\n\n", "00000000\n00000abc\n1000000f\n00000000\n", "00000000\n00000abc\n1000000f\n\n", "\n00000000\n00000abc\n1000000f\n",
		"00000000\n00000abc\n1000000f", "00000000\n00000abc\n1000000f ", "100000000\n00000abc\n1000000f\n", "none\nnone\nnone\n", "00000000\x0b00000abc\n1000000f\n",
	} {
		none(t, "other sums", text("cauchy_orig", head, sums))
	}
}

// The last sum is right as a number, but written otherwise.
func TestTakeOfOtherLastSums(t *testing.T) {
	r := numbers()
	for range 200 {
		b := put(t, some(r, api.Params{P: api.JV + r.Intn(2), K: 1 + r.Intn(8), M: 1 + r.Intn(4)}))
		head := unsealed(api.JV, b)
		sum := strings.TrimSuffix(string(b[len(head):]), "\n")
		for _, last := range []string{
			sum, sum + "\r\n", sum + " \n", " " + sum + "\n", sum + "\n\n", "\n" + sum + "\n", "0" + sum + "\n", "+" + sum + "\n", "0x" + sum + "\n", sum + "\x00", sum + "\n\x00", sum + "\n ", sum + " ",
			sum[:7] + "\n", sum[1:] + "\n", "\n", "", sum + sum + "\n", sum + "\n" + sum + "\n", "00000000\n",
		} {
			none(t, "another last sum", slices.Concat(head, []byte(last)))
		}
		if large := strings.ToUpper(sum); large != sum {
			none(t, "large letters", slices.Concat(head, []byte(large+"\n")))
		}
		if short := strings.TrimLeft(sum, "0"); short != sum {
			none(t, "without zeros", slices.Concat(head, []byte(short+"\n")))
		}
	}
}

// Any other last sum is wrong.
func TestTakeOfWrongLastSums(t *testing.T) {
	r := numbers()
	fewAndMany(func(x api.Params) {
		b := put(t, some(r, x))
		head := unsealed(x.P, b)
		for range 100 {
			wrong := sealed(x.P, fmt.Append(nil, r.Int()))
			none(t, "a wrong last sum", slices.Concat(head, wrong[len(unsealed(x.P, wrong)):]))
		}
		none(t, "without its last sum", head)
		none(t, "with its last sum ahead", slices.Concat(b[len(head):], head))
		none(t, "turned by all bits", slices.Concat(head, bytes.Map(func(r rune) rune { return r ^ 1 }, b[len(head):])))
	})
}

// What is by chance is no sidecar, even if it begins as one.
func TestTakeOfBytesByChance(t *testing.T) {
	r := numbers()
	for range 3000 {
		b := make([]byte, r.Intn(100))
		r.Read(b)
		none(t, "by chance", b)
		for p, f := range forms() {
			none(t, "by chance, behind a head", slices.Concat([]byte(f.head), b))
			none(t, "by chance, and its sum is right", sealed(p, b))
		}
	}
	for _, s := range []string{
		"jerasure", "jerasure reed_sol_van", "jerasure reed_sol_van\n", "jerasure reed_sol_van\n\n", "jerasure reed_sol_van\n\n\n", "jerasure cauchy_orig\n\n\n\n\n", "jerasure cauchy_orig\n \n\n", "jerasure cauchy_orig\n  \n\n\n",
		"ISAL", "ISAL\x01", "ISAL\x02\x01", "ISAL\x02\x01\x01", "ISAL\x02\x01\x01\x00", "BBRS", "BBRS\x01", "BBRS\x01\x01", "KPRS", "KPRS\x01\x01", "KPRS\x01\x01\x00\x00\x00\x00",
	} {
		none(t, "a head", []byte(s))
		for p := range forms() {
			none(t, "a head, and its sum is right", sealed(p, []byte(s)))
		}
	}
}
