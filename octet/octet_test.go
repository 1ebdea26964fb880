package octet_test

import (
	"encoding/binary"
	"math"
	"strings"
	"testing"

	"kedge/octet"
)

func sizes() []int { return []int{1, 2, 4, 8} }

// noSizes: all others up to 16, and far ones; among them such whose low bits are a size.
func noSizes() []int {
	return []int{0, 3, 5, 6, 7, 9, 10, 12, 15, 16, 32, 64, 257, 1<<32 + 1, 1<<32 + 8, 1 << 62, math.MaxInt - 1, math.MaxInt,
		-1, -2, -4, -8, -255, 1 - 1<<32, math.MinInt, math.MinInt + 1, math.MinInt + 8}
}

// numbers: ordinary ones, and those on both sides of what each size holds.
func numbers() []uint64 {
	return []uint64{0, 1, 2, 127, 128, 141, 254, 255, 256, 257, 258, 511, 65534, 65535, 65536, 65537, 0x010203, 1 << 24,
		1<<31 - 1, 1 << 31, 1<<32 - 1, 1 << 32, 1<<32 + 1, 0x0102030405060708, 0xf1e2d3c4b5a69788, 1<<63 - 1, 1 << 63, 1<<63 + 1, math.MaxUint64 - 1, math.MaxUint64}
}

// bytesOf a number: all eight of them, by the library.
func bytesOf(n uint64) string { return string(binary.LittleEndian.AppendUint64(nil, n)) }

// numberOf at most eight bytes: as many zero bytes behind them as are missing, by the library.
func numberOf(s string) uint64 {
	return binary.LittleEndian.Uint64([]byte(s + strings.Repeat("\x00", 8-len(s))))
}

func TestPutWrittenOut(t *testing.T) {
	for _, c := range []struct {
		n    uint64
		size int
		want string
	}{
		{258, 2, "\x02\x01"},
		{0, 1, "\x00"},
		{7, 1, "\x07"},
		{7, 2, "\x07\x00"},
		{0x01020304, 4, "\x04\x03\x02\x01"},
		{0x0102030405060708, 8, "\x08\x07\x06\x05\x04\x03\x02\x01"},
		{258, 1, "\x02"},
		{0x0102030405060708, 2, "\x08\x07"},
		{0x0102030405060708, 4, "\x08\x07\x06\x05"},
		{1 << 32, 4, "\x00\x00\x00\x00"},
		{math.MaxUint64, 1, "\xff"},
		{math.MaxUint64, 8, "\xff\xff\xff\xff\xff\xff\xff\xff"},
	} {
		if s := octet.Put(c.n, c.size); s != c.want {
			t.Errorf("P2.1: Put(%d, %d) is %q, not %q", c.n, c.size, s, c.want)
		}
	}
}

func TestPut(t *testing.T) {
	for _, n := range numbers() {
		for _, size := range sizes() {
			if s := octet.Put(n, size); s != bytesOf(n)[:size] {
				t.Errorf("P2.1: Put(%d, %d) is %q", n, size, s)
			}
		}
		for _, size := range noSizes() {
			if s := octet.Put(n, size); s != "" {
				t.Errorf("P2.1: Put(%d, %d) is %q, not empty", n, size, s)
			}
		}
	}
}

func TestGetWrittenOut(t *testing.T) {
	text := "\x01\x02\x03\x04\x05\x06\x07\x08\xff\xfe"
	for _, c := range []struct {
		s        string
		at, size int
		want     uint64
		ok       bool
	}{
		{"\x02\x01", 0, 2, 258, true},
		{"\x00", 0, 1, 0, true},
		{text, 0, 1, 1, true},
		{text, 8, 1, 0xff, true},
		{text, 9, 1, 0xfe, true},
		{text, 10, 1, 0, false},
		{text, 3, 2, 0x0504, true},
		{text, 8, 2, 0xfeff, true},
		{text, 9, 2, 0, false},
		{text, 2, 4, 0x06050403, true},
		{text, 6, 4, 0xfeff0807, true},
		{text, 7, 4, 0, false},
		{text, 1, 8, 0xff08070605040302, true},
		{text, 2, 8, 0xfeff080706050403, true},
		{text, 3, 8, 0, false},
		{text, -1, 1, 0, false},
		{text, 0, 3, 0, false},
		{text, 0, 0, 0, false},
		{"", 0, 1, 0, false},
		{"", 0, 0, 0, false},
		{strings.Repeat("\xff", 8), 0, 8, math.MaxUint64, true},
		{strings.Repeat("\xff", 7), 0, 8, 0, false},
	} {
		if n, ok := octet.Get(c.s, c.at, c.size); n != c.want || ok != c.ok {
			t.Errorf("P2.1: Get(%q, %d, %d) is %d, %v, not %d, %v", c.s, c.at, c.size, n, ok, c.want, c.ok)
		}
	}
}

// texts of every length up to two of the greatest size, and a long one; no byte is like its neighbours.
func texts() []string {
	b := make([]byte, 70000)
	for i := range b {
		b[i] = byte(251 - 37*i)
	}
	l := []string{string(b)}
	for n := range 18 {
		l = append(l, string(b[:n]))
	}
	return l
}

func places(length int) []int {
	l := []int{math.MinInt, math.MinInt + 1, math.MinInt + 8, -1 << 32, -9, -8, -4, -2, -1,
		length + 1, length + 8, 1 << 32, 1 << 62, math.MaxInt - 8, math.MaxInt - 7, math.MaxInt - 1, math.MaxInt}
	for at := range min(length, 20) + 1 {
		l = append(l, at, length-at)
	}
	return l
}

func TestGet(t *testing.T) {
	for _, s := range texts() {
		for _, at := range places(len(s)) {
			for _, size := range sizes() {
				want, there := uint64(0), at >= 0 && at <= len(s) && len(s)-at >= size
				if there {
					want = numberOf(s[at : at+size])
				}
				if n, ok := octet.Get(s, at, size); n != want || ok != there {
					t.Errorf("P2.1: Get of %d bytes at %d, %d of them, is %d, %v, not %d, %v", len(s), at, size, n, ok, want, there)
				}
			}
			for _, size := range noSizes() {
				if n, ok := octet.Get(s, at, size); n != 0 || ok {
					t.Errorf("P2.1: Get of %d bytes at %d, %d of them, is %d, %v, not 0, false", len(s), at, size, n, ok)
				}
			}
		}
	}
}

// low bits of a number, as many as so many bytes have.
func low(n uint64, size int) uint64 {
	if size == 8 {
		return n
	}
	return n % (1 << (8 * size))
}

func TestPutIsGotAgain(t *testing.T) {
	for _, n := range numbers() {
		for _, size := range sizes() {
			for _, around := range []struct{ before, behind string }{{"", ""}, {"a", ""}, {"", "z"}, {"\xff\xff\xff", "\xff\xff\xff\xff\xff\xff\xff\xff"}, {strings.Repeat("\x01", 300), "\x01"}} {
				s := around.before + octet.Put(n, size) + around.behind
				if got, ok := octet.Get(s, len(around.before), size); got != low(n, size) || !ok {
					t.Errorf("P2.2: %d, put in %d bytes at %d, is got as %d, %v", n, size, len(around.before), got, ok)
				}
			}
		}
	}
}

func TestGotIsPutAgain(t *testing.T) {
	for _, s := range texts() {
		for _, size := range sizes() {
			for at := range min(len(s)-size, 40) + 1 {
				n, ok := octet.Get(s, at, size)
				if !ok || octet.Put(n, size) != s[at:at+size] {
					t.Errorf("P2.2: %q is got as %d, %v", s[at:at+size], n, ok)
				}
			}
		}
	}
}
