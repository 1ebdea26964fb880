package wire_test

import (
	"encoding/binary"
	"fmt"
	"strings"
	"testing"

	"kedge/api"
	"kedge/tx"
	"kedge/wire"
)

func wantDecode(t *testing.T, name, s string, want api.Tx) {
	t.Helper()
	if u, n, e := wire.Decode(s); told(u) != told(want) || n != len(s) || e != api.OK {
		t.Errorf("P6.2: Decode of %s is %s, %d, %d, not %s, %d", name, brief(told(u)), n, e, brief(told(want)), len(s))
	}
}

func wantWrong(t *testing.T, name, s string, at int, want api.Errno) {
	t.Helper()
	u, n, e := wire.Decode(s)
	if n != at || e != want {
		t.Errorf("P6.2: Decode of %s is wrong at %d by %d, not at %d by %d", name, n, e, at, want)
	}
	if told(u) != told(api.Tx{}) {
		t.Errorf("rule 2: Decode of %s, beside an error, is %s", name, brief(told(u)))
	}
}

func TestDecodeOrdinary(t *testing.T) {
	for name, u := range map[string]api.Tx{"a rich one": rich(), "a plain one": plain(2, 3), "the greatest one": greatest()} {
		wantDecode(t, name, joined(partsOf(u, isMarked(u))), u)
		wantDecode(t, name+", bare", joined(partsOf(u, false)), stripped(u))
	}
}

// TestDecodeCut: bytes that are cut in a part, or just ahead of it, want bytes of that part.
func TestDecodeCut(t *testing.T) {
	long := plain(253, 254)
	long.Ins[252].Witness = []string{"w"}
	for name, u := range map[string]api.Tx{"a rich one": rich(), "a plain one": plain(2, 3), "a long one": long, "the greatest one": greatest()} {
		for _, marked := range []bool{isMarked(u), false} {
			at := 0
			parts := partsOf(u, marked)
			s := joined(parts)
			for _, p := range parts {
				for size := range len(p.bytes) {
					if len(s) > 20000 && size > 1 && size < len(p.bytes)-1 {
						continue
					}
					end := at + size
					wantWrong(t, fmt.Sprintf("%s, cut at %d, %d bytes into %s", name, end, size, p.name), s[:end], at, api.ErrShort)
				}
				at += len(p.bytes)
			}
		}
	}
}

// wrongPart: bytes in place of a part, which are wrong by that error.
type wrongPart struct {
	name, bytes string
	want        api.Errno
}

// loose: a number in more bytes than it needs.
func loose(n uint64) []string {
	var l []string
	if n <= 252 {
		l = append(l, "\xfd"+in4(uint32(n))[:2])
	}
	if n <= 0xffff {
		l = append(l, "\xfe"+in4(uint32(n)))
	}
	return append(l, "\xff"+in8(n))
}

// wrongCounts: of a count or length that may be from least to most; of others that error holds.
func wrongCounts(name string, least, most uint64, outside api.Errno) []wrongPart {
	var l []wrongPart
	for _, n := range []uint64{most + 1, most + 2, 252, 253, 254, 255, 257, 512, 0xffff, 0x10000, 0x10001, 0xffffffff, 1 << 32, 1<<32 + 1, 1<<63 - 1, 1 << 63, 1<<63 + 1, 1<<64 - 1} {
		if n > most {
			l = append(l, wrongPart{fmt.Sprintf("%s of %d", name, n), counted(n), outside})
		}
	}
	if least > 0 {
		l = append(l, wrongPart{name + " of 0", "\x00", outside})
	}
	for _, n := range []uint64{0, 1, most, most + 1, 252, 253, 0xffff, 0x10000, 0xffffffff} {
		if n < 253 || n > 256 {
			for _, bytes := range loose(n) {
				if bytes != counted(n) {
					l = append(l, wrongPart{fmt.Sprintf("%s of %d in %d bytes", name, n, len(bytes)), bytes, api.ErrForm})
				}
			}
		}
	}
	return l
}

// wrongParts: all that may be wrong in a part but that bytes of it are wanting.
func wrongParts(name string, marked bool) []wrongPart {
	switch name {
	case "flag":
		var l []wrongPart
		for _, b := range []byte{0, 2, 3, 127, 128, 129, 253, 254, 255} {
			l = append(l, wrongPart{fmt.Sprintf("a flag of %d", b), string([]byte{b}), api.ErrForm})
		}
		return l
	case "count of Ins":
		least := uint64(0)
		if marked { // else the byte 0 would be a marker
			least = 1
		}
		return wrongCounts("a count of Ins", least, 256, api.ErrCount)
	case "length 0":
		return wrongCounts("a length that must be 0", 0, 0, api.ErrForm)
	case "count of Outs":
		return wrongCounts("a count of Outs", 1, 256, api.ErrCount)
	case "Value":
		var l []wrongPart
		for _, n := range []uint64{api.MaxMoney + 1, api.MaxMoney + 2, 1 << 62, 1<<63 - 1, 1 << 63, 1<<63 + 1, 1<<63 + api.MaxMoney, 1<<64 - 1, 1<<64 - api.MaxMoney} {
			l = append(l, wrongPart{fmt.Sprintf("a Value of %d", n), in8(n), api.ErrRange})
		}
		return l
	case "Script's length":
		return wrongCounts("a Script's length", 0, 40, api.ErrLong)
	case "count of texts":
		return wrongCounts("a count of texts", 0, 4, api.ErrCount)
	case "text's length":
		return wrongCounts("a text's length", 0, 80, api.ErrLong)
	}
	return nil
}

// TestDecodeWrongParts: each part of a transaction with each thing that may be wrong in it, with all that was behind it, with nothing, and with other bytes.
func TestDecodeWrongParts(t *testing.T) {
	for name, u := range map[string]api.Tx{"a rich one": rich(), "a plain one": plain(2, 3)} {
		for _, marked := range []bool{isMarked(u), false} {
			parts := partsOf(u, marked)
			for i, p := range parts {
				ahead := joined(parts[:i])
				for _, w := range wrongParts(p.name, marked) {
					what := fmt.Sprintf("%s, with %s", name, w.name)
					wantWrong(t, what, ahead+w.bytes+joined(parts[i+1:]), len(ahead), w.want)
					wantWrong(t, what+" and nothing behind", ahead+w.bytes, len(ahead), w.want)
					for _, b := range []string{"\x00", "\x01", "\xff"} {
						wantWrong(t, what+" and other bytes behind", ahead+w.bytes+strings.Repeat(b, 100), len(ahead), w.want)
					}
					if len(w.bytes) > 1 {
						wantWrong(t, what+", cut", ahead+w.bytes[:len(w.bytes)-1], len(ahead), api.ErrShort)
					}
				}
			}
		}
	}
}

// TestDecodeTwoFaults: of two parts that are wrong the first one is told.
func TestDecodeTwoFaults(t *testing.T) {
	parts := partsOf(rich(), true)
	for i := range parts {
		for _, first := range wrongParts(parts[i].name, true) {
			ahead := joined(parts[:i])
			for j := i + 1; j < len(parts); j++ {
				if l := wrongParts(parts[j].name, true); len(l) > 0 {
					second := l[(i+j)%len(l)]
					s := ahead + first.bytes + joined(parts[i+1:j]) + second.bytes + joined(parts[j+1:])
					wantWrong(t, first.name+", then "+second.name, s, len(ahead), first.want)
				}
			}
			wantWrong(t, first.name+", then more behind LockTime", ahead+first.bytes+joined(parts[i+1:])+"x", len(ahead), first.want)
		}
	}
}

// TestDecodeNamed: the edges by their places, counted by hand.
func TestDecodeNamed(t *testing.T) {
	in := strings.Repeat("i", 32) + "\x01\x00\x00\x00\x00\x05\x00\x00\x00"
	out := "\x09\x00\x00\x00\x00\x00\x00\x00\x02ab"
	version, lock := "\x02\x00\x00\x00", "\x07\x00\x00\x00"
	bare := version + "\x01" + in + "\x01" + out
	full := version + "\x00\x01\x01" + in + "\x01" + out
	for _, x := range []struct {
		name, s string
		at      int
		want    api.Errno
	}{
		{"nothing", "", 0, api.ErrShort},
		{"a byte 0", "\x00", 0, api.ErrShort},
		{"three bytes 0", "\x00\x00\x00", 0, api.ErrShort},
		{"Version alone", version, 4, api.ErrShort},
		{"a marker alone", version + "\x00", 5, api.ErrShort},
		{"four bytes 0", "\x00\x00\x00\x00", 4, api.ErrShort},
		{"five bytes 0", "\x00\x00\x00\x00\x00", 5, api.ErrShort},
		{"six bytes 0", "\x00\x00\x00\x00\x00\x00", 5, api.ErrForm},
		{"a flag of 2", version + "\x00\x02", 5, api.ErrForm},
		{"a marker, the flag, and nothing", version + "\x00\x01", 6, api.ErrShort},
		{"a second marker", version + "\x00\x01\x00\x01" + in, 6, api.ErrCount},
		{"257 Ins", version + "\xfd\x01\x01", 4, api.ErrCount},
		{"1 in three bytes", version + "\xfd\x01\x00", 4, api.ErrForm},
		{"0 in three bytes", version + "\xfd\x00\x00", 4, api.ErrForm},
		{"the greatest count of Ins", version + "\xff\xff\xff\xff\xff\xff\xff\xff\xff", 4, api.ErrCount},
		{"an ID that is cut", version + "\x01" + in[:31], 5, api.ErrShort},
		{"an ID that is wanting", version + "\x01", 5, api.ErrShort},
		{"an Index that is wanting", version + "\x01" + in[:32], 37, api.ErrShort},
		{"an Index that is cut", version + "\x01" + in[:35], 37, api.ErrShort},
		{"a length 0 that is wanting", version + "\x01" + in[:36], 41, api.ErrShort},
		{"a length of 1", version + "\x01" + in[:36] + "\x01", 41, api.ErrForm},
		{"a length of 253, cut", version + "\x01" + in[:36] + "\xfd\xfd", 41, api.ErrShort},
		{"a length of 253", version + "\x01" + in[:36] + "\xfd\xfd\x00", 41, api.ErrForm},
		{"a Sequence that is cut", version + "\x01" + in[:40], 42, api.ErrShort},
		{"no count of Outs", version + "\x01" + in, 46, api.ErrShort},
		{"no Outs", version + "\x01" + in + "\x00" + lock, 46, api.ErrCount},
		{"257 Outs", version + "\x01" + in + "\xfd\x01\x01" + out, 46, api.ErrCount},
		{"a Value that is cut", bare[:54], 47, api.ErrShort},
		{"a Value of MaxMoney and 1", bare[:47] + "\x01\x40\x07\x5a\xf0\x75\x07\x00", 47, api.ErrRange},
		{"a Value with its highest bit set", bare[:47] + "\x00\x00\x00\x00\x00\x00\x00\x80", 47, api.ErrRange},
		{"a Script's length that is wanting", bare[:55], 55, api.ErrShort},
		{"a Script of 41 bytes", bare[:55] + "\x29" + strings.Repeat("s", 41) + lock, 55, api.ErrLong},
		{"a Script that is wanting", bare[:56], 56, api.ErrShort},
		{"a Script that is cut", bare[:57], 56, api.ErrShort},
		{"LockTime that is wanting", bare, 58, api.ErrShort},
		{"LockTime that is cut", bare + lock[:3], 58, api.ErrShort},
		{"a byte more", bare + lock + "\x00", 62, api.ErrForm},
		{"a transaction twice", bare + lock + bare + lock, 62, api.ErrForm},
		{"no count of texts", full, 60, api.ErrShort},
		{"5 texts", full + "\x05", 60, api.ErrCount},
		{"253 texts", full + "\xfd\xfd\x00", 60, api.ErrCount},
		{"no text's length", full + "\x01", 61, api.ErrShort},
		{"a text of 81 bytes", full + "\x01\x51" + strings.Repeat("w", 81) + lock, 61, api.ErrLong},
		{"a text that is wanting", full + "\x01\x01", 62, api.ErrShort},
		{"a text that is cut", full + "\x02\x00\x03ww", 63, api.ErrShort},
		{"no LockTime behind a Witness", full + "\x01\x01w", 63, api.ErrShort},
		{"a byte more behind a Witness", full + "\x01\x01w" + lock + "\x00", 67, api.ErrForm},
		{"a marker and an empty Witness", full + "\x00" + lock, 60, api.ErrForm},
		{"a marker, an empty Witness, and a byte more", full + "\x00" + lock + "\x00", 60, api.ErrForm},
		{"a marker, an empty Witness, and no LockTime", full + "\x00", 60, api.ErrForm},
		{"a marker, and 0 texts in three bytes", full + "\xfd\x00\x00", 60, api.ErrForm},
	} {
		wantWrong(t, x.name, x.s, x.at, x.want)
	}
	u := api.Tx{Version: 2, Ins: []api.In{{From: api.Point{ID: strings.Repeat("i", 32), Index: 1}, Sequence: 5}}, Outs: []api.Out{{Value: api.MaxMoney, Script: "ab"}}, LockTime: 7}
	wantDecode(t, "a Value of MaxMoney", bare[:47]+"\x00\x40\x07\x5a\xf0\x75\x07\x00"+bare[55:]+lock, u)
}

// TestDecodeLimits: each count and length at its limit is read, and one more isn't; the bytes behind are as many as are told.
func TestDecodeLimits(t *testing.T) {
	for _, n := range []int{1, 2, 252, 253, 255, 256, 257, 258} {
		ins, outs := plain(n, 1), plain(1, n)
		if n <= 256 {
			wantDecode(t, fmt.Sprintf("%d Ins", n), joined(partsOf(ins, false)), ins)
			wantDecode(t, fmt.Sprintf("%d Outs", n), joined(partsOf(outs, false)), outs)
			continue
		}
		wantWrong(t, fmt.Sprintf("%d Ins", n), joined(partsOf(ins, false)), 4, api.ErrCount)
		wantWrong(t, fmt.Sprintf("%d Outs", n), joined(partsOf(outs, false)), 4+1+41, api.ErrCount)
	}
	for size := range 260 {
		u := plain(1, 2)
		u.Outs[1].Script = strings.Repeat("s", size)
		s := joined(partsOf(u, false))
		if size <= 40 {
			wantDecode(t, fmt.Sprintf("a Script of %d bytes", size), s, u)
		} else {
			wantWrong(t, fmt.Sprintf("a Script of %d bytes", size), s, 4+1+41+1+15+8, api.ErrLong)
		}
		w := plain(1, 1)
		w.Ins[0].Witness = []string{"x", strings.Repeat("w", size)}
		s = joined(partsOf(w, true))
		if size <= 80 {
			wantDecode(t, fmt.Sprintf("a text of %d bytes", size), s, w)
		} else {
			wantWrong(t, fmt.Sprintf("a text of %d bytes", size), s, 6+1+41+1+15+3, api.ErrLong)
		}
		c := plain(2, 1)
		c.Ins[1].Witness = make([]string, size)
		s = joined(partsOf(c, size > 0))
		if size <= 4 {
			wantDecode(t, fmt.Sprintf("%d texts", size), s, c)
		} else {
			wantWrong(t, fmt.Sprintf("%d texts", size), s, 6+1+82+1+15+1, api.ErrCount)
		}
	}
}

// TestDecodeValues: each from 0 to MaxMoney, no other.
func TestDecodeValues(t *testing.T) {
	for _, n := range []uint64{0, 1, 255, 256, 1 << 31, 1 << 32, api.MaxMoney - 1, api.MaxMoney} {
		u := plain(1, 1)
		u.Outs[0].Value = int(n)
		wantDecode(t, fmt.Sprintf("a Value of %d", n), joined(partsOf(u, false)), u)
	}
	at := 4 + 1 + 41 + 1
	s := []byte(joined(partsOf(plain(1, 1), false)))
	for _, w := range wrongParts("Value", false) {
		copy(s[at:], w.bytes)
		wantWrong(t, w.name, string(s), at, api.ErrRange)
	}
	for bit := range 64 {
		n := uint64(1) << bit
		binary.LittleEndian.PutUint64(s[at:], n)
		if n > api.MaxMoney {
			wantWrong(t, fmt.Sprintf("a Value of %d", n), string(s), at, api.ErrRange)
		} else if u, _, e := wire.Decode(string(s)); e != api.OK || u.Outs[0].Value != int(n) {
			t.Errorf("P6.2: a Value of %d is %d, %s", n, e, told(u))
		}
	}
}

// TestDecodeNoWitness: a marker where all Witnesses are empty is told behind the last of them, at the first one's place, ahead of what is behind them.
func TestDecodeNoWitness(t *testing.T) {
	for _, ins := range []int{1, 2, 3, 256} {
		u := plain(ins, 1)
		parts := partsOf(u, true)
		counts := len(parts) - 1 - ins
		first, s := len(joined(parts[:counts])), joined(parts)
		name := fmt.Sprintf("a marker and %d empty Witnesses", ins)
		wantWrong(t, name, s, first, api.ErrForm)
		wantWrong(t, name+", and a byte more", s+"\x00", first, api.ErrForm)
		wantWrong(t, name+", and a cut LockTime", s[:len(s)-1], first, api.ErrForm)
		wantWrong(t, name+", and no LockTime", s[:len(s)-4], first, api.ErrForm)
		for at := range ins {
			place := first + at
			wantWrong(t, fmt.Sprintf("%s, but cut ahead of %d", name, at), s[:place], place, api.ErrShort)
			wantWrong(t, fmt.Sprintf("%s, but %d has 5 texts", name, at), s[:place]+"\x05"+s[place+1:], place, api.ErrCount)
			wantWrong(t, fmt.Sprintf("%s, but %d is loose", name, at), s[:place]+"\xfd\x00\x00"+s[place+1:], place, api.ErrForm)
			u.Ins[at].Witness = []string{""}
			wantDecode(t, fmt.Sprintf("%s, but %d has an empty text", name, at), s[:place]+"\x01\x00"+s[place+1:], u)
			u.Ins[at].Witness = nil
		}
	}
	// What is wrong at the end comes behind it.
	u := plain(2, 1)
	u.Ins[1].From = u.Ins[0].From
	wantWrong(t, "a marker, empty Witnesses, and an output spent twice", joined(partsOf(u, true)), 4+2+1+82+1+15, api.ErrForm)
}

// TestDecodeChecked: layer 5's errors of what is read, at the place of the end; behind all that the bytes alone are wrong by.
func TestDecodeChecked(t *testing.T) {
	for _, x := range []struct {
		name   string
		change func(u *api.Tx)
		want   api.Errno
	}{
		{"an output that is spent twice", func(u *api.Tx) { u.Ins[2].From = u.Ins[0].From }, api.ErrTwice},
		{"the base point as the first of several", func(u *api.Tx) { u.Ins[0].From = base }, api.ErrForm},
		{"the base point as the last of several", func(u *api.Tx) { u.Ins[2].From = base }, api.ErrForm},
		{"the base point twice", func(u *api.Tx) { u.Ins[1].From, u.Ins[2].From = base, base }, api.ErrForm},
		{"Values that are too much together", func(u *api.Tx) { u.Outs[1].Value = api.MaxMoney }, api.ErrRange},
		{"an output spent twice, and too much", func(u *api.Tx) { u.Outs[1].Value, u.Ins[1].From = api.MaxMoney, u.Ins[0].From }, api.ErrTwice},
	} {
		u := rich()
		x.change(&u)
		if e := tx.Check(u); e != x.want {
			t.Fatalf("Check of %s is %d, not %d", x.name, e, x.want)
		}
		for _, marked := range []bool{true, false} {
			s := joined(partsOf(u, marked))
			wantWrong(t, x.name, s, len(s), x.want)
			wantWrong(t, x.name+", and a byte more", s+"\x00", len(s), api.ErrForm)
			wantWrong(t, x.name+", and a cut LockTime", s[:len(s)-1], len(s)-4, api.ErrShort)
		}
	}
	one := tx.Grant(3, []api.Out{{Value: 5}})
	one.Ins[0].Witness = []string{"w"}
	wantDecode(t, "a grant with a Witness", joined(partsOf(one, true)), one)
}

// TestDecodeLongTexts: P1 and rule 6, at texts that are much longer than any transaction.
func TestDecodeLongTexts(t *testing.T) {
	size := 1 << 20
	zeros := strings.Repeat("\x00", size)
	wantWrong(t, "many bytes 0", zeros, 5, api.ErrForm)
	wantWrong(t, "many bytes 1", strings.Repeat("\x01", size), 4+1+36, api.ErrForm)
	wantWrong(t, "many bytes 255", strings.Repeat("\xff", size), 4, api.ErrCount)
	s := joined(partsOf(greatest(), true))
	wantWrong(t, "the greatest one with much behind", s+zeros, len(s), api.ErrForm)
}
