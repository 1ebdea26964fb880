package wire_test

import (
	"fmt"
	"math"
	"strings"
	"testing"

	"kedge/api"
	"kedge/tx"
	"kedge/wire"
)

// wantEncode: the bytes and the bare bytes.
func wantEncode(t *testing.T, name string, u api.Tx, full, bare string) {
	t.Helper()
	if s, e := wire.Encode(u); s != full || e != api.OK {
		t.Errorf("P6.1: Encode of %s is %x, %d, not %x", name, brief(s), e, brief(full))
	}
	if s, e := wire.Bare(u); s != bare || e != api.OK {
		t.Errorf("P6.1: Bare of %s is %x, %d, not %x", name, brief(s), e, brief(bare))
	}
}

func wantRefused(t *testing.T, name string, u api.Tx, want api.Errno) {
	t.Helper()
	if e := tx.Check(u); e != want {
		t.Fatalf("Check of %s is %d, not %d", name, e, want)
	}
	if s, e := wire.Encode(u); s != "" || e != want {
		t.Errorf("P6.1: Encode of %s is %x, %d, not error %d alone", name, brief(s), e, want)
	}
	if s, e := wire.Bare(u); s != "" || e != want {
		t.Errorf("P6.1: Bare of %s is %x, %d, not error %d alone", name, brief(s), e, want)
	}
}

func TestExample(t *testing.T) {
	s := bytesOf(t, "02000000 01"+strings.Repeat("00", 32)+"ffffffff 00 ffffffff 01"+strings.Repeat("00", 8)+"00 00000000")
	if len(s) != 60 {
		t.Fatalf("the example has %d bytes", len(s))
	}
	u := tx.Grant(0, []api.Out{{}})
	wantEncode(t, "the example", u, s, s)
	wantDecode(t, "the example", s, u)
}

// TestWritten: bytes that are written out, with Witnesses and without, some of them empty.
func TestWritten(t *testing.T) {
	a, b := strings.Repeat("a", 32), strings.Repeat("b", 32)
	hexA, hexB := strings.Repeat("61", 32), strings.Repeat("62", 32)
	ins := func(first, second []string) []api.In {
		return []api.In{{From: api.Point{ID: a, Index: 1}, Sequence: 0x01020304, Witness: first}, {From: api.Point{ID: b, Index: 0xfffffffe}, Sequence: 0, Witness: second}}
	}
	outs := []api.Out{{Value: 2100000000000000 - 258, Script: "xyz"}, {Value: 258}}
	inner := "02 " + hexA + "01000000 00 04030201 " + hexB + "feffffff 00 00000000" +
		"02 fe3e075af0750700 03 78797a 0201000000000000 00"
	bare := bytesOf(t, "ddccbbaa"+inner+"44332211")
	for _, x := range []struct {
		first, second []string
		witnesses     string
	}{
		{nil, nil, ""},
		{[]string{}, []string{}, ""},
		{[]string{"w"}, nil, "01 01 77  00"},
		{nil, []string{"w"}, "00  01 01 77"},
		{[]string{""}, nil, "01 00  00"},
		{nil, []string{"", ""}, "00  02 00 00"},
		{[]string{"\x00\xff", "", "v"}, []string{"u", "", "", "\x01"}, "03 02 00ff 00 01 76  04 01 75 00 00 01 01"},
	} {
		u := api.Tx{Version: 0xaabbccdd, Ins: ins(x.first, x.second), Outs: outs, LockTime: 0x11223344}
		full := bare
		if x.witnesses != "" {
			full = bytesOf(t, "ddccbbaa 00 01"+inner+x.witnesses+"44332211")
		}
		name := fmt.Sprintf("one with the Witnesses %q and %q", x.first, x.second)
		wantEncode(t, name, u, full, bare)
		wantDecode(t, name, full, u)
		wantDecode(t, name+", bare", bare, stripped(u))
	}
}

func TestEncodeOrdinary(t *testing.T) {
	for name, u := range map[string]api.Tx{"a rich one": rich(), "a plain one": plain(2, 3), "the greatest one": greatest()} {
		wantEncode(t, name, u, joined(partsOf(u, isMarked(u))), joined(partsOf(u, false)))
	}
	full, _ := wire.Encode(greatest())
	if want := 4 + 2 + 3 + 256*41 + 3 + 256*49 + 256*(1+4*81) + 4; len(full) != want {
		t.Errorf("P6.1: the greatest transaction has %d bytes, not %d", len(full), want)
	}
}

// TestEncodeCounts: a count of 253 and more stands in three bytes.
func TestEncodeCounts(t *testing.T) {
	for _, ins := range []int{1, 2, 252, 253, 254, 255, 256} {
		for _, outs := range []int{1, 2, 252, 253, 254, 255, 256} {
			u := plain(ins, outs)
			bare := joined(partsOf(u, false))
			wantEncode(t, fmt.Sprintf("%d Ins and %d Outs", ins, outs), u, bare, bare)
			u.Ins[ins-1].Witness = []string{"w"}
			wantEncode(t, fmt.Sprintf("%d Ins, the last one with a Witness, and %d Outs", ins, outs), u, joined(partsOf(u, true)), bare)
		}
	}
}

// TestEncodeLengths: each length of a Script and of a Witness's text, and each count of texts.
func TestEncodeLengths(t *testing.T) {
	for size := range 81 {
		u := plain(1, 1)
		u.Outs[0].Script = strings.Repeat("s", min(size, 40))
		for texts := range 5 {
			u.Ins[0].Witness = nil
			for item := range texts {
				u.Ins[0].Witness = append(u.Ins[0].Witness, strings.Repeat("w", (size+item)%81))
			}
			wantEncode(t, fmt.Sprintf("a Script of %d bytes and the Witness %q", min(size, 40), u.Ins[0].Witness), u, joined(partsOf(u, texts > 0)), joined(partsOf(u, false)))
		}
	}
}

func TestEncodeRefuses(t *testing.T) {
	change := func(f func(u *api.Tx)) api.Tx {
		u := rich()
		f(&u)
		return u
	}
	for _, x := range []struct {
		name string
		u    api.Tx
		want api.Errno
	}{
		{"none", api.Tx{}, api.ErrCount},
		{"one without Ins", plain(0, 1), api.ErrCount},
		{"one without Outs", plain(1, 0), api.ErrCount},
		{"257 Ins", plain(257, 1), api.ErrCount},
		{"257 Outs", plain(1, 257), api.ErrCount},
		{"a Witness of 5 texts", change(func(u *api.Tx) { u.Ins[1].Witness = make([]string, 5) }), api.ErrCount},
		{"a Script of 41 bytes", change(func(u *api.Tx) { u.Outs[2].Script = strings.Repeat("s", 41) }), api.ErrLong},
		{"a text of 81 bytes", change(func(u *api.Tx) { u.Ins[2].Witness[3] = strings.Repeat("w", 81) }), api.ErrLong},
		{"an ID of 31 bytes", change(func(u *api.Tx) { u.Ins[0].From.ID = strings.Repeat("i", 31) }), api.ErrForm},
		{"an ID of 33 bytes", change(func(u *api.Tx) { u.Ins[2].From.ID = strings.Repeat("i", 33) }), api.ErrForm},
		{"an empty ID", change(func(u *api.Tx) { u.Ins[1].From.ID = "" }), api.ErrForm},
		{"the base point among several", change(func(u *api.Tx) { u.Ins[1].From = base }), api.ErrForm},
		{"an output that is spent twice", change(func(u *api.Tx) { u.Ins[2].From = u.Ins[0].From }), api.ErrTwice},
		{"a Value below 0", change(func(u *api.Tx) { u.Outs[1].Value = -1 }), api.ErrRange},
		{"the least Value", change(func(u *api.Tx) { u.Outs[1].Value = math.MinInt }), api.ErrRange},
		{"the greatest Value", change(func(u *api.Tx) { u.Outs[0].Value = math.MaxInt }), api.ErrRange},
		{"a Value above MaxMoney", change(func(u *api.Tx) { u.Outs[1].Value = api.MaxMoney + 1 }), api.ErrRange},
		{"Values that are too much together", change(func(u *api.Tx) { u.Outs[1].Value = api.MaxMoney }), api.ErrRange},
		{"a long text and an output that is spent twice", change(func(u *api.Tx) {
			u.Ins[2].Witness[3], u.Ins[2].From = strings.Repeat("w", 81), u.Ins[0].From
		}), api.ErrLong},
	} {
		wantRefused(t, x.name, x.u, x.want)
	}
}
