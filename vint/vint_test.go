package vint_test

import (
	"encoding/binary"
	"math"
	"strings"
	"testing"

	"kedge/api"
	"kedge/vint"
)

// numbers: ordinary ones of each length, and those on both sides of what each length holds.
func numbers() []uint64 {
	l := []uint64{0x0102, 0x1234, 0xfdfd, 0xfefe, 0x010203, 0x01020304, 0xfdfdfdfd, 500000000, 1<<31 - 1, 1 << 31, 2100000000000000,
		0x0102030405060708, 0xf1e2d3c4b5a69788, 1 << 40, 1 << 48, 1<<63 - 1, 1 << 63, 1<<63 + 1, math.MaxUint64 - 1, math.MaxUint64}
	for n := range uint64(520) {
		l = append(l, n, 1<<16-260+n, 1<<32-260+n)
	}
	return l
}

// bytesOf a number, by the library's byte order.
func bytesOf(n uint64) string {
	switch {
	case n <= 252:
		return string([]byte{byte(n)})
	case n <= math.MaxUint16:
		return string(binary.LittleEndian.AppendUint16([]byte{253}, uint16(n)))
	case n <= math.MaxUint32:
		return string(binary.LittleEndian.AppendUint32([]byte{254}, uint32(n)))
	}
	return string(binary.LittleEndian.AppendUint64([]byte{255}, n))
}

// longForms of a number: written in more bytes than it has.
func longForms(n uint64) []string {
	var l []string
	if n <= 252 {
		l = append(l, string(binary.LittleEndian.AppendUint16([]byte{253}, uint16(n))))
	}
	if n <= math.MaxUint16 {
		l = append(l, string(binary.LittleEndian.AppendUint32([]byte{254}, uint32(n))))
	}
	if n <= math.MaxUint32 {
		l = append(l, string(binary.LittleEndian.AppendUint64([]byte{255}, n)))
	}
	return l
}

type around struct{ before, behind string }

func arounds() []around {
	return []around{{"", ""}, {"a", ""}, {"", "z"}, {"\xfd", "\xfd"}, {"\xff\xff\xff", "\xff\xff\xff\xff\xff\xff\xff\xff"}, {strings.Repeat("\x01", 300), "\x00"}}
}

// wantGet holds what Get answers against a number, a place and an error.
func wantGet(t *testing.T, promise, s string, at int, n uint64, end int, e api.Errno) {
	t.Helper()
	if gotN, gotEnd, gotE := vint.Get(s, at); gotN != n || gotEnd != end || gotE != e {
		t.Errorf("%s: Get of %d bytes (%.24q) at %d is %d, %d, %d, not %d, %d, %d", promise, len(s), s, at, gotN, gotEnd, gotE, n, end, e)
	}
}

func TestPutWrittenOut(t *testing.T) {
	for _, c := range []struct {
		n    uint64
		want string
	}{
		{0, "\x00"},
		{1, "\x01"},
		{141, "\x8d"},
		{252, "\xfc"},
		{253, "\xfd\xfd\x00"},
		{254, "\xfd\xfe\x00"},
		{255, "\xfd\xff\x00"},
		{256, "\xfd\x00\x01"},
		{0x1234, "\xfd\x34\x12"},
		{1<<16 - 1, "\xfd\xff\xff"},
		{1 << 16, "\xfe\x00\x00\x01\x00"},
		{0x01020304, "\xfe\x04\x03\x02\x01"},
		{1<<32 - 1, "\xfe\xff\xff\xff\xff"},
		{1 << 32, "\xff\x00\x00\x00\x00\x01\x00\x00\x00"},
		{0x0102030405060708, "\xff\x08\x07\x06\x05\x04\x03\x02\x01"},
		{math.MaxUint64, "\xff\xff\xff\xff\xff\xff\xff\xff\xff"},
	} {
		if s := vint.Put(c.n); s != c.want {
			t.Errorf("P3.1: Put(%d) is %q, not %q", c.n, s, c.want)
		}
		wantGet(t, "P3.1", c.want, 0, c.n, len(c.want), api.OK)
	}
}

func TestPut(t *testing.T) {
	for _, n := range numbers() {
		if s := vint.Put(n); s != bytesOf(n) {
			t.Errorf("P3.1: Put(%d) is %q, not %q", n, s, bytesOf(n))
		}
	}
}

func TestGetWrittenOut(t *testing.T) {
	text := "\x07\xfd\x34\x12\xfe\x04\x03\x02\x01\xff\x08\x07\x06\x05\x04\x03\x02\x01\xfc"
	for _, c := range []struct {
		s   string
		at  int
		n   uint64
		end int
		e   api.Errno
	}{
		{text, 0, 7, 1, api.OK},
		{text, 1, 0x1234, 4, api.OK},
		{text, 2, 0x34, 3, api.OK},
		{text, 4, 0x01020304, 9, api.OK},
		{text, 9, 0x0102030405060708, 18, api.OK},
		{text, 18, 252, 19, api.OK},
		{text, 19, 0, 0, api.ErrShort},
		{text, 20, 0, 0, api.ErrArg},
		{text, -1, 0, 0, api.ErrArg},
		{text, math.MinInt, 0, 0, api.ErrArg},
		{text, math.MaxInt, 0, 0, api.ErrArg},
		{"", 0, 0, 0, api.ErrShort},
		{"", 1, 0, 0, api.ErrArg},
		{"", -1, 0, 0, api.ErrArg},
		{"\xfd", 0, 0, 0, api.ErrShort},
		{"\xfd\xfd", 0, 0, 0, api.ErrShort},
		{"\xfd\xfc\x00", 0, 0, 0, api.ErrForm},
		{"\xfd\x00\x00", 0, 0, 0, api.ErrForm},
		{"\xfe\x00\x00\x01", 0, 0, 0, api.ErrShort},
		{"\xfe\xff\xff\x00\x00", 0, 0, 0, api.ErrForm},
		{"\xfe\x07\x00\x00\x00", 0, 0, 0, api.ErrForm},
		{"\xff\x00\x00\x00\x00\x01\x00\x00", 0, 0, 0, api.ErrShort},
		{"\xff\xff\xff\xff\xff\x00\x00\x00\x00", 0, 0, 0, api.ErrForm},
		{"\xff\xff\xff\x00\x00\x00\x00\x00\x00", 0, 0, 0, api.ErrForm},
		{"\xff\xfc\x00\x00\x00\x00\x00\x00\x00", 0, 0, 0, api.ErrForm},
	} {
		wantGet(t, "P3.1", c.s, c.at, c.n, c.end, c.e)
	}
}

func TestPutIsGotAgain(t *testing.T) {
	for _, n := range numbers() {
		for _, a := range arounds() {
			s := a.before + vint.Put(n) + a.behind
			wantGet(t, "P3.1", s, len(a.before), n, len(s)-len(a.behind), api.OK)
		}
	}
}

// TestShort takes off from the end as many bytes as there are: only the whole is a number.
func TestShort(t *testing.T) {
	for _, n := range numbers() {
		for _, s := range append(longForms(n), bytesOf(n)) {
			for _, before := range []string{"", "a", "\xff\xff\xff"} {
				for length := range len(s) {
					wantGet(t, "P3.1", before+s[:length], len(before), 0, 0, api.ErrShort)
				}
			}
		}
	}
}

func TestLongForms(t *testing.T) {
	for _, n := range numbers() {
		for _, s := range longForms(n) {
			for _, a := range arounds() {
				wantGet(t, "P3.2", a.before+s+a.behind, len(a.before), 0, 0, api.ErrForm)
			}
		}
	}
}

func TestPlacesThatNoTextHas(t *testing.T) {
	for _, s := range []string{"", "\x00", "\xfd", "\xfd\xfc\x00", "\xfd\xfd\x00", "\xff\xff\xff\xff\xff\xff\xff\xff\xff", strings.Repeat("\x07", 70000)} {
		for _, at := range []int{math.MinInt, math.MinInt + 1, math.MinInt + 9, -1 << 32, -9, -8, -3, -2, -1,
			len(s) + 1, len(s) + 2, len(s) + 8, len(s) + 9, 1 << 32, 1 << 62, math.MaxInt - 9, math.MaxInt - 8, math.MaxInt - 1, math.MaxInt} {
			wantGet(t, "P3.1", s, at, 0, 0, api.ErrArg)
		}
		wantGet(t, "P3.1", s, len(s), 0, 0, api.ErrShort)
	}
}

// TestOneTextAlone goes through every text of three bytes: each number below 2^16 is got from one alone, that of Put.
func TestOneTextAlone(t *testing.T) {
	var seen [1 << 16]int
	for i := range 1 << 24 {
		s := string([]byte{byte(i >> 16), byte(i >> 8), byte(i)})
		n, end, e := vint.Get(s, 0)
		switch {
		case e != api.OK && (n != 0 || end != 0):
			t.Fatalf("P3.1: Get of %q is %d, %d beside %d", s, n, end, e)
		case e == api.OK && (n > math.MaxUint16 || end < 1 || end > 3 || s[:end] != bytesOf(n)):
			t.Fatalf("P3.2: Get of %q is %d, %d", s, n, end)
		// What stands behind a number is no part of its text: counted with zero bytes behind it alone.
		case e == api.OK && strings.Trim(s[end:], "\x00") == "":
			seen[n]++
		}
	}
	for n, times := range seen {
		if times != 1 {
			t.Fatalf("P3.2: %d has %d texts", n, times)
		}
	}
}

// TestGotIsPutAgain: whatever is got, from texts of each first byte and patterns behind it, is what Put writes.
func TestGotIsPutAgain(t *testing.T) {
	for first := range 256 {
		for _, fill := range []byte{0, 1, 0x7f, 0x80, 252, 253, 254, 255} {
			for full := range 9 {
				s := string([]byte{byte(first)}) + strings.Repeat(string([]byte{fill}), full) + strings.Repeat("\x00", 8-full)
				n, end, e := vint.Get(s, 0)
				if e == api.OK && (end > len(s) || vint.Put(n) != s[:end]) || e != api.OK && e != api.ErrForm {
					t.Errorf("P3.2: Get of %q is %d, %d, %d", s, n, end, e)
				}
			}
		}
	}
}
