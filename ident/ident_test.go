package ident_test

import (
	"crypto/sha256"
	"encoding/binary"
	"encoding/hex"
	"fmt"
	"math"
	"strings"
	"testing"

	"kedge/api"
	"kedge/ident"
)

// base: the base point, written out.
var base = api.Point{ID: strings.Repeat("\x00", 32), Index: 4294967295}

// point: outputs by number, each another one.
func point(n int) api.Point {
	return api.Point{ID: fmt.Sprintf("%032d", n/3), Index: uint32(n % 3)}
}

// plain: a transaction without Witnesses, with so many Ins and Outs.
func plain(ins, outs int) api.Tx {
	u := api.Tx{Version: 2, Ins: make([]api.In, ins), Outs: make([]api.Out, outs), LockTime: 7}
	for i := range u.Ins {
		u.Ins[i] = api.In{From: point(i), Sequence: uint32(i)}
	}
	for i := range u.Outs {
		u.Outs[i] = api.Out{Value: i + 1, Script: "script"}
	}
	return u
}

// rich: a transaction with something in every part, one empty Witness, and an empty Script.
func rich() api.Tx {
	return api.Tx{
		Version: 0x04030201,
		Ins: []api.In{
			{From: point(0), Sequence: 0x14131211, Witness: []string{"one", "two"}},
			{From: point(1), Sequence: 0x24232221},
			{From: point(5), Sequence: math.MaxUint32, Witness: []string{"", "three", "four", "five"}},
		},
		Outs:     []api.Out{{Value: 0x060504030201, Script: "first"}, {Value: 0}, {Value: 300, Script: "third"}},
		LockTime: 0x34333231,
	}
}

// greatest: everything at its limit at once.
func greatest() api.Tx {
	u := api.Tx{Version: math.MaxUint32, Ins: make([]api.In, 256), Outs: make([]api.Out, 256), LockTime: math.MaxUint32}
	for i := range u.Ins {
		p := api.Point{ID: strings.Repeat("\xff", 31) + string([]byte{byte(i)}), Index: math.MaxUint32}
		u.Ins[i] = api.In{From: p, Sequence: math.MaxUint32}
		for item := range 4 {
			u.Ins[i].Witness = append(u.Ins[i].Witness, strings.Repeat(string([]byte{byte(i + item)}), 80))
		}
	}
	for i := range u.Outs {
		u.Outs[i].Script = strings.Repeat(string([]byte{byte(i)}), 40)
	}
	u.Outs[255].Value = 2100000000000000
	return u
}

// stripped: a transaction without its Witnesses, in memory of its own.
func stripped(t api.Tx) api.Tx {
	u := api.Tx{Version: t.Version, LockTime: t.LockTime}
	for _, in := range t.Ins {
		u.Ins = append(u.Ins, api.In{From: in.From, Sequence: in.Sequence})
	}
	u.Outs = append(u.Outs, t.Outs...)
	return u
}

// told: all that a transaction has, in a text; an empty list is told alike, nil or not.
func told(t api.Tx) string {
	var b strings.Builder
	fmt.Fprintf(&b, "%d %d", t.Version, t.LockTime)
	for _, in := range t.Ins {
		fmt.Fprintf(&b, " in %q %d %d %q", in.From.ID, in.From.Index, in.Sequence, in.Witness)
	}
	for _, out := range t.Outs {
		fmt.Fprintf(&b, " out %d %q", out.Value, out.Script)
	}
	return b.String()
}

// bytesOf: what is written in hexadecimal, with blanks between.
func bytesOf(t *testing.T, digits string) string {
	t.Helper()
	b, err := hex.DecodeString(strings.ReplaceAll(digits, " ", ""))
	if err != nil {
		t.Fatal(err)
	}
	return string(b)
}

func in4(n uint32) string { return string(binary.LittleEndian.AppendUint32(nil, n)) }

func in8(n uint64) string { return string(binary.LittleEndian.AppendUint64(nil, n)) }

// count: a count or length of at most 65535, by layer 3's words.
func count(n int) string {
	if n <= 252 {
		return string([]byte{byte(n)})
	}
	return "\xfd" + in4(uint32(n))[:2]
}

// written: a transaction's bytes by layer 6's words; its Witnesses, if it is marked.
func written(t api.Tx, marked bool) string {
	var b strings.Builder
	b.WriteString(in4(t.Version))
	if marked {
		b.WriteString("\x00\x01")
	}
	b.WriteString(count(len(t.Ins)))
	for _, in := range t.Ins {
		b.WriteString(in.From.ID + in4(in.From.Index) + "\x00" + in4(in.Sequence))
	}
	b.WriteString(count(len(t.Outs)))
	for _, out := range t.Outs {
		b.WriteString(in8(uint64(out.Value)) + count(len(out.Script)) + out.Script)
	}
	for _, in := range t.Ins {
		if marked {
			b.WriteString(count(len(in.Witness)))
			for _, item := range in.Witness {
				b.WriteString(count(len(item)) + item)
			}
		}
	}
	return b.String() + in4(t.LockTime)
}

// isMarked: isn't one of its Witnesses empty?
func isMarked(t api.Tx) bool {
	texts := 0
	for _, in := range t.Ins {
		texts += len(in.Witness)
	}
	return texts > 0
}

func twice(s string) string {
	once := sha256.Sum256([]byte(s))
	again := sha256.Sum256(once[:])
	return string(again[:])
}

// traits of a transaction: what the four calls of P7.1 answer.
type traits struct {
	id, whole    string
	weight, size int
}

// traitsOf a transaction that may be, by the chapter's words.
func traitsOf(u api.Tx) traits {
	bare, full := written(u, false), written(u, isMarked(u))
	w := traits{id: twice(bare), whole: twice(full), weight: len(bare) + len(bare) + len(bare) + len(full)}
	for 4*w.size < w.weight {
		w.size++
	}
	return w
}

// wantTraits: P7.1's answers, and P7.2's of every Out.
func wantTraits(t *testing.T, name string, u api.Tx, want traits) {
	t.Helper()
	if id, e := ident.ID(u); id != want.id || e != api.OK {
		t.Errorf("P7.1: ID of %s is %x, %d, not %x", name, id, e, want.id)
	}
	if id, e := ident.Whole(u); id != want.whole || e != api.OK {
		t.Errorf("P7.1: Whole of %s is %x, %d, not %x", name, id, e, want.whole)
	}
	if n, e := ident.Weight(u); n != want.weight || e != api.OK {
		t.Errorf("P7.1: Weight of %s is %d, %d, not %d", name, n, e, want.weight)
	}
	if n, e := ident.Size(u); n != want.size || e != api.OK {
		t.Errorf("P7.1: Size of %s is %d, %d, not %d", name, n, e, want.size)
	}
	for i := range u.Outs {
		wantPays(t, name, u, i, api.Point{ID: want.id, Index: uint32(i)}, api.OK)
	}
}

func wantPays(t *testing.T, name string, u api.Tx, index int, want api.Point, code api.Errno) {
	t.Helper()
	if p, e := ident.Pays(u, index); p != want || e != code {
		t.Errorf("P7.2: Pays of %s at %d is %x %d, %d, not %x %d, %d", name, index, p.ID, p.Index, e, want.ID, want.Index, code)
	}
}

// cut: a transaction whose lists have more behind their lengths, all of it wrong; and the whole lists.
func cut() (api.Tx, api.Tx) {
	whole := rich()
	whole.Ins[0].Witness = append(whole.Ins[0].Witness, "x", "y", strings.Repeat("z", 81))
	whole.Ins = append(whole.Ins, api.In{From: point(0), Witness: make([]string, 9)}, api.In{From: base}, api.In{From: api.Point{ID: "short"}})
	whole.Outs = append(whole.Outs, api.Out{Value: -1}, api.Out{Value: math.MaxInt, Script: strings.Repeat("s", 41)})
	part := whole
	part.Ins, part.Outs = whole.Ins[:3], whole.Outs[:3]
	part.Ins[0].Witness = whole.Ins[0].Witness[:2]
	return part, whole
}

// TestNothingIsChanged: no call changes what it is handed, nor what lies behind a list's length, nor reads that.
func TestNothingIsChanged(t *testing.T) {
	part, whole := cut()
	witness := part.Ins[0].Witness[:5]
	before, behind, items := told(part), told(whole), fmt.Sprintf("%q", witness)
	if before != told(rich()) {
		t.Fatalf("the part is %s", before)
	}
	wantTraits(t, "a part of longer lists", part, traitsOf(rich()))
	for index := len(part.Outs); index <= cap(part.Outs); index++ {
		wantPays(t, "a part of longer lists", part, index, api.Point{}, api.ErrArg)
	}
	if told(part) != before || told(whole) != behind || fmt.Sprintf("%q", witness) != items {
		t.Errorf("rule 4: what was handed in is %s, behind it %s, %q", told(part), told(whole), witness)
	}
	unmarked := plain(2, 1)
	for i := range unmarked.Ins {
		unmarked.Ins[i].Witness = []string{"x", "y"}[:0]
	}
	wantTraits(t, "one whose empty Witnesses have something behind them", unmarked, traitsOf(plain(2, 1)))
}

// TestNothingIsKept: answers hang on the arguments alone, whatever was asked ahead, refused or not.
func TestNothingIsKept(t *testing.T) {
	u := rich()
	first := traitsOf(u)
	wantTraits(t, "a rich one", u, first)
	u.Outs[2].Value, u.Ins[0].Witness[0] = 301, "ONE!"
	wantTraits(t, "a rich one, changed in place", u, traitsOf(u))
	u.Outs[2].Value = -1
	wantRefused(t, "a rich one with a Value below 0", u, api.ErrRange)
	u.Outs[2].Value, u.Ins[0].Witness[0] = 300, "one"
	wantTraits(t, "a rich one, changed back", u, first)
}
