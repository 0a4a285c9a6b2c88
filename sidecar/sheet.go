package sidecar

import (
	"bytes"
	"strconv"

	"gambrel/api"
	"gambrel/crc"
	"gambrel/profile"
)

// sheet is what a sidecar's bytes are laid on, one behind the other.
type sheet struct{ bytes.Buffer }

// writers are, by their layouts, what lays all of a sidecar that is behind its head.
func writers() map[byte]func(*sheet, Meta) {
	return map[byte]func(*sheet, Meta){
		'j': (*sheet).jerasure,
		'i': (*sheet).isal,
		'b': (*sheet).backblaze,
		'p': (*sheet).klauspost,
	}
}

func (s *sheet) jerasure(m Meta) {
	row, _ := profile.Of(m.X.P)
	s.figures(m.Size, ' ')
	s.figures(m.X.K, ' ')
	s.figures(m.X.M, ' ')
	s.figures(row.Bits, '\n')
	s.sums(m.Sums, s.textLine)
}

func (s *sheet) isal(m Meta) {
	s.counts(m.X)
	s.lowFirst(uint32(m.Size))
	s.sums(m.Sums, s.lowFirst)
}

func (s *sheet) backblaze(m Meta) {
	s.counts(m.X)
	s.sums(m.Sums, s.highFirst)
}

func (s *sheet) klauspost(m Meta) {
	s.counts(m.X)
	s.highFirst(uint32(m.Size))
	s.sums(m.Sums, s.highFirst)
}

// figures lays a number to the base 10, and what parts it from the next one.
func (s *sheet) figures(n int, behind byte) {
	s.WriteString(strconv.Itoa(n))
	s.WriteByte(behind)
}

// counts lays how many data and parity shards there are, a byte each.
func (s *sheet) counts(x api.Params) {
	s.WriteByte(byte(x.K))
	s.WriteByte(byte(x.M))
}

func (s *sheet) textLine(sum uint32) {
	s.WriteString(crc.Text(sum))
	s.WriteByte('\n')
}

func (s *sheet) lowFirst(n uint32) {
	s.Write([]byte{byte(n), byte(n >> 8), byte(n >> 16), byte(n >> 24)})
}

func (s *sheet) highFirst(n uint32) {
	s.Write([]byte{byte(n >> 24), byte(n >> 16), byte(n >> 8), byte(n)})
}

// sums lays each of the sums and, likewise, that of all bytes which are laid by then.
func (s *sheet) sums(sums []uint32, lay func(uint32)) {
	for _, sum := range sums {
		lay(sum)
	}
	lay(crc.Sum(s.Bytes()))
}
