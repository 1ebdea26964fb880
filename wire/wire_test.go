package wire_test

import (
	"encoding/binary"
	"encoding/hex"
	"fmt"
	"math"
	"strings"
	"testing"

	"kedge/api"
	"kedge/wire"
)

// base: the base point, written out.
var base = api.Point{ID: strings.Repeat("\x00", 32), Index: 4294967295}

// point: outputs by number, each another one.
func point(n int) api.Point {
	return api.Point{ID: fmt.Sprintf("%032d", n/3), Index: uint32(n % 3)}
}

// plain: a transaction without Witnesses, with so many Ins and Outs.
func plain(ins, outs int) api.Tx {
	u := api.Tx{Version: 2, Ins: make([]api.In, ins), Outs: make([]api.Out, outs), LockTime: 7}
	for i := range u.Ins {
		u.Ins[i] = api.In{From: point(i), Sequence: uint32(i)}
	}
	for i := range u.Outs {
		u.Outs[i] = api.Out{Value: i + 1, Script: "script"}
	}
	return u
}

// rich: a transaction with something in every part, one empty Witness, and an empty Script.
func rich() api.Tx {
	return api.Tx{
		Version: 0x04030201,
		Ins: []api.In{
			{From: point(0), Sequence: 0x14131211, Witness: []string{"one", "two"}},
			{From: point(1), Sequence: 0x24232221},
			{From: point(5), Sequence: math.MaxUint32, Witness: []string{"", "three", "four", "five"}},
		},
		Outs:     []api.Out{{Value: 0x060504030201, Script: "first"}, {Value: 0}, {Value: 300, Script: "third"}},
		LockTime: 0x34333231,
	}
}

// greatest: everything at its limit at once.
func greatest() api.Tx {
	u := api.Tx{Version: math.MaxUint32, Ins: make([]api.In, 256), Outs: make([]api.Out, 256), LockTime: math.MaxUint32}
	for i := range u.Ins {
		p := api.Point{ID: strings.Repeat("\xff", 31) + string([]byte{byte(i)}), Index: math.MaxUint32}
		u.Ins[i] = api.In{From: p, Sequence: math.MaxUint32}
		for item := range 4 {
			u.Ins[i].Witness = append(u.Ins[i].Witness, strings.Repeat(string([]byte{byte(i + item)}), 80))
		}
	}
	for i := range u.Outs {
		u.Outs[i].Script = strings.Repeat(string([]byte{byte(i)}), 40)
	}
	u.Outs[255].Value = 2100000000000000
	return u
}

// stripped: a transaction without its Witnesses, in memory of its own.
func stripped(t api.Tx) api.Tx {
	u := api.Tx{Version: t.Version, LockTime: t.LockTime}
	for _, in := range t.Ins {
		u.Ins = append(u.Ins, api.In{From: in.From, Sequence: in.Sequence})
	}
	u.Outs = append(u.Outs, t.Outs...)
	return u
}

// told: all that a transaction has, in a text; an empty list is told alike, nil or not.
func told(t api.Tx) string {
	var b strings.Builder
	fmt.Fprintf(&b, "%d %d", t.Version, t.LockTime)
	for _, in := range t.Ins {
		fmt.Fprintf(&b, " in %q %d %d %q", in.From.ID, in.From.Index, in.Sequence, in.Witness)
	}
	for _, out := range t.Outs {
		fmt.Fprintf(&b, " out %d %q", out.Value, out.Script)
	}
	return b.String()
}

func brief(s string) string { return s[:min(len(s), 300)] }

// bytesOf: what is written in hexadecimal, with blanks between.
func bytesOf(t *testing.T, digits string) string {
	t.Helper()
	b, err := hex.DecodeString(strings.ReplaceAll(digits, " ", ""))
	if err != nil {
		t.Fatal(err)
	}
	return string(b)
}

// part of a transaction's bytes: what it is, and its bytes.
type part struct{ name, bytes string }

func in4(n uint32) string { return string(binary.LittleEndian.AppendUint32(nil, n)) }

func in8(n uint64) string { return string(binary.LittleEndian.AppendUint64(nil, n)) }

// counted: a number as layer 3 writes it, by the words of its chapter.
func counted(n uint64) string {
	switch {
	case n <= 252:
		return string([]byte{byte(n)})
	case n <= math.MaxUint16:
		return "\xfd" + in4(uint32(n))[:2]
	case n <= math.MaxUint32:
		return "\xfe" + in4(uint32(n))
	}
	return "\xff" + in8(n)
}

// partsOf a transaction, by the chapter's words; its Witnesses, if it is marked.
func partsOf(t api.Tx, marked bool) []part {
	var l []part
	add := func(name, bytes string) { l = append(l, part{name, bytes}) }
	add("Version", in4(t.Version))
	if marked {
		add("marker", "\x00")
		add("flag", "\x01")
	}
	add("count of Ins", counted(uint64(len(t.Ins))))
	for _, in := range t.Ins {
		add("ID", in.From.ID)
		add("Index", in4(in.From.Index))
		add("length 0", "\x00")
		add("Sequence", in4(in.Sequence))
	}
	add("count of Outs", counted(uint64(len(t.Outs))))
	for _, out := range t.Outs {
		add("Value", in8(uint64(out.Value)))
		add("Script's length", counted(uint64(len(out.Script))))
		add("Script", out.Script)
	}
	for _, in := range t.Ins {
		if marked {
			add("count of texts", counted(uint64(len(in.Witness))))
			for _, item := range in.Witness {
				add("text's length", counted(uint64(len(item))))
				add("text", item)
			}
		}
	}
	add("LockTime", in4(t.LockTime))
	return l
}

func joined(l []part) string {
	var b strings.Builder
	for _, p := range l {
		b.WriteString(p.bytes)
	}
	return b.String()
}

// isMarked: isn't one of its Witnesses empty?
func isMarked(t api.Tx) bool {
	texts := 0
	for _, in := range t.Ins {
		texts += len(in.Witness)
	}
	return texts > 0
}

// cut: a transaction whose lists have more behind their lengths, all of it wrong; and the whole lists.
func cut() (api.Tx, api.Tx) {
	whole := rich()
	whole.Ins[0].Witness = append(whole.Ins[0].Witness, "x", "y", strings.Repeat("z", 81))
	whole.Ins = append(whole.Ins, api.In{From: point(0), Witness: make([]string, 9)}, api.In{From: base}, api.In{From: api.Point{ID: "short"}})
	whole.Outs = append(whole.Outs, api.Out{Value: -1}, api.Out{Value: math.MaxInt, Script: strings.Repeat("s", 41)})
	part := whole
	part.Ins, part.Outs = whole.Ins[:3], whole.Outs[:3]
	part.Ins[0].Witness = whole.Ins[0].Witness[:2]
	return part, whole
}

// TestNothingIsChanged: neither call changes what it is handed, nor what lies behind a list's length, nor reads that.
func TestNothingIsChanged(t *testing.T) {
	part, whole := cut()
	witness := part.Ins[0].Witness[:5]
	before, behind, items := told(part), told(whole), fmt.Sprintf("%q", witness)
	if before != told(rich()) {
		t.Fatalf("the part is %s", before)
	}
	wantEncode(t, "a part of longer lists", part, joined(partsOf(rich(), true)), joined(partsOf(rich(), false)))
	if told(part) != before || told(whole) != behind || fmt.Sprintf("%q", witness) != items {
		t.Errorf("rule 4: what was handed in is %s, behind it %s, %q", told(part), told(whole), witness)
	}
	unmarked := plain(2, 1)
	for i := range unmarked.Ins {
		unmarked.Ins[i].Witness = []string{"x", "y"}[:0]
	}
	bare := joined(partsOf(plain(2, 1), false))
	wantEncode(t, "empty Witnesses with something behind them", unmarked, bare, bare)
}

// TestDecodedIsNewMemory: no two lists of an answer, nor of two answers, share any.
func TestDecodedIsNewMemory(t *testing.T) {
	for _, u := range []api.Tx{rich(), plain(3, 3), greatest()} {
		s := joined(partsOf(u, isMarked(u)))
		a, _, _ := wire.Decode(s)
		b, _, _ := wire.Decode(s)
		for i := range a.Ins {
			for item := range a.Ins[i].Witness {
				a.Ins[i].Witness[item] = "changed"
			}
			a.Ins[i].Witness = append(a.Ins[i].Witness, "more")
		}
		for i := range b.Ins {
			if fmt.Sprintf("%q", b.Ins[i].Witness) != fmt.Sprintf("%q", u.Ins[i].Witness) {
				t.Errorf("rule 4: a Witness of one answer is changed in another: %q", b.Ins[i].Witness)
			}
			b.Ins[i].Witness = append(b.Ins[i].Witness, "more")
		}
		for i := range b.Ins {
			if fmt.Sprintf("%q", b.Ins[i].Witness) != fmt.Sprintf("%q", append(u.Ins[i].Witness[:len(u.Ins[i].Witness):len(u.Ins[i].Witness)], "more")) {
				t.Errorf("rule 4: a Witness is changed by another: %q", b.Ins[i].Witness)
			}
		}
		_ = append(a.Ins, api.In{Sequence: 99})
		_ = append(a.Outs, api.Out{Value: 99})
		clear(a.Ins)
		clear(a.Outs)
		if told(stripped(b)) != told(stripped(u)) {
			t.Errorf("rule 4: one answer is changed by another: %s", brief(told(b)))
		}
		if c, n, e := wire.Decode(s); told(c) != told(u) || n != len(s) || e != api.OK {
			t.Errorf("rule 4: what is decoded again is %s, %d, %d", brief(told(c)), n, e)
		}
	}
}

// TestDecodedHasNothingBehind: behind the lengths of an answer's lists there is nothing of what was handed in.
func TestDecodedHasNothingBehind(t *testing.T) {
	for _, u := range []api.Tx{rich(), plain(3, 3), greatest()} {
		a, _, _ := wire.Decode(joined(partsOf(u, isMarked(u))))
		for _, out := range a.Outs[len(a.Outs):cap(a.Outs)] {
			if out != (api.Out{}) {
				t.Errorf("rule 4: behind the Outs lies %v", out)
			}
		}
		for _, in := range a.Ins[len(a.Ins):cap(a.Ins)] {
			if in.From != (api.Point{}) || in.Witness != nil {
				t.Errorf("rule 4: behind the Ins lies %v", in)
			}
		}
		for _, in := range a.Ins {
			for _, item := range in.Witness[len(in.Witness):cap(in.Witness)] {
				if item != "" {
					t.Errorf("rule 4: behind a Witness lies %q", item)
				}
			}
		}
	}
}
