package tx_test

import (
	"fmt"
	"math"
	"slices"
	"strings"
	"testing"

	"kedge/api"
	"kedge/tx"
)

func wantSpends(t *testing.T, u api.Tx, p api.Point, at int, ok bool) {
	t.Helper()
	if gotAt, gotOk := tx.Spends(u, p); gotAt != at || gotOk != ok {
		t.Errorf("P5.3: Spends of %.200s of %.40q, %d is %d, %v, not %d, %v", told(u), p.ID, p.Index, gotAt, gotOk, at, ok)
	}
}

func TestSpends(t *testing.T) {
	for _, ins := range []int{0, 1, 2, 5, 256, 1000} {
		u := plain(ins, 1)
		for i := range ins {
			wantSpends(t, u, api.Point{ID: strings.Clone(point(i).ID), Index: point(i).Index}, i, true)
		}
		for _, p := range []api.Point{point(ins), point(2000), {}, base, {ID: point(0).ID, Index: 3}, {ID: point(0).ID[:31]}, {ID: point(0).ID + "0"}, {ID: strings.Repeat("0", 70000)}} {
			wantSpends(t, u, p, 0, false)
		}
	}
}

func TestSpendsOfAnOutputThatStandsTwice(t *testing.T) {
	a, b, c := point(0), point(1), point(4)
	u := api.Tx{Ins: spending(a, b, c, b, a, c)}
	wantSpends(t, u, a, 0, true)
	wantSpends(t, u, b, 1, true)
	wantSpends(t, u, c, 2, true)
	wantSpends(t, api.Tx{Ins: spending(a, a)}, a, 0, true)
	wantSpends(t, api.Tx{Ins: spending(b, a, a)}, a, 1, true)
}

func TestSpendsOfOddPoints(t *testing.T) {
	long := api.Point{ID: strings.Repeat("x", 70000), Index: 1}
	u := api.Tx{Ins: spending(api.Point{}, base, long, api.Point{ID: "a"}, api.Point{ID: "a\x00"})}
	wantSpends(t, u, api.Point{}, 0, true)
	wantSpends(t, u, base, 1, true)
	wantSpends(t, u, long, 2, true)
	wantSpends(t, u, api.Point{ID: "a"}, 3, true)
	wantSpends(t, u, api.Point{ID: "a\x00"}, 4, true)
	wantSpends(t, u, api.Point{ID: "A"}, 0, false)
	wantSpends(t, tx.Grant(1, outsOf(1)), base, 0, true)
}

// ordered: points, each ahead of the next one.
func ordered() []api.Point {
	var l []api.Point
	mid := strings.Repeat("m", 32)
	for _, id := range []string{"", "\x00", "\x00\x00", strings.Repeat("\x00", 31), strings.Repeat("\x00", 32), strings.Repeat("\x00", 31) + "\x01", "\x01",
		"B", "a", "a\x00", "aa", "a\xff", "b", mid[:31], mid[:31] + "l", mid[:31] + "l\xff", mid, mid + "\x00", mid + "m", mid[:31] + "n", "n", "\x7f", "\x80", "\xc3", "é", "\xff", "\xff\x00", strings.Repeat("\xff", 32), strings.Repeat("\xff", 70000)} {
		for _, n := range []uint32{0, 1, 255, 256, 1<<31 - 1, 1 << 31, math.MaxUint32 - 1, math.MaxUint32} {
			l = append(l, api.Point{ID: id, Index: n})
		}
	}
	return l
}

func TestLess(t *testing.T) {
	l := ordered()
	for i, a := range l {
		for k, b := range l {
			if less := tx.Less(a, api.Point{ID: strings.Clone(b.ID), Index: b.Index}); less != (i < k) {
				t.Fatalf("P5.3: Less(%.40q %d, %.40q %d) is %v", a.ID, a.Index, b.ID, b.Index, less)
			}
		}
	}
}

// changes of one part of a transaction like rich's.
func changes() map[string]func(*api.Tx) {
	return map[string]func(*api.Tx){
		"Version":                 func(u *api.Tx) { u.Version++ },
		"Version's highest bit":   func(u *api.Tx) { u.Version ^= 1 << 31 },
		"LockTime":                func(u *api.Tx) { u.LockTime-- },
		"LockTime's highest bit":  func(u *api.Tx) { u.LockTime ^= 1 << 31 },
		"first In's ID":           func(u *api.Tx) { u.Ins[0].From.ID = point(9).ID },
		"last In's ID":            func(u *api.Tx) { u.Ins[2].From.ID = point(9).ID },
		"first In's Index":        func(u *api.Tx) { u.Ins[0].From.Index = 77 },
		"last In's Index":         func(u *api.Tx) { u.Ins[2].From.Index = 77 },
		"first In's Sequence":     func(u *api.Tx) { u.Ins[0].Sequence++ },
		"last In's Sequence":      func(u *api.Tx) { u.Ins[2].Sequence ^= 1 << 31 },
		"a text":                  func(u *api.Tx) { u.Ins[0].Witness[0] = "onf" },
		"a text's length":         func(u *api.Tx) { u.Ins[0].Witness[0] = "one\x00" },
		"the last text":           func(u *api.Tx) { u.Ins[2].Witness[3] = "" },
		"an empty text":           func(u *api.Tx) { u.Ins[2].Witness[0] = "x" },
		"a text more":             func(u *api.Tx) { u.Ins[0].Witness = append(u.Ins[0].Witness, "") },
		"a text where was none":   func(u *api.Tx) { u.Ins[1].Witness = []string{""} },
		"a text less":             func(u *api.Tx) { u.Ins[2].Witness = u.Ins[2].Witness[:3] },
		"no text":                 func(u *api.Tx) { u.Ins[0].Witness = nil },
		"texts put together":      func(u *api.Tx) { u.Ins[0].Witness = []string{"onet", "wo"} },
		"texts the other way":     func(u *api.Tx) { slices.Reverse(u.Ins[0].Witness) },
		"Witnesses the other way": func(u *api.Tx) { u.Ins[0].Witness, u.Ins[1].Witness = u.Ins[1].Witness, u.Ins[0].Witness },
		"Ins the other way":       func(u *api.Tx) { slices.Reverse(u.Ins) },
		"an In more":              func(u *api.Tx) { u.Ins = append(u.Ins, api.In{}) },
		"an In less":              func(u *api.Tx) { u.Ins = u.Ins[:2] },
		"without its first In":    func(u *api.Tx) { u.Ins = u.Ins[1:] },
		"no In":                   func(u *api.Tx) { u.Ins = nil },
		"first Out's Value":       func(u *api.Tx) { u.Outs[0].Value++ },
		"last Out's Value":        func(u *api.Tx) { u.Outs[2].Value = math.MinInt },
		"first Out's Script":      func(u *api.Tx) { u.Outs[0].Script = "First" },
		"last Out's Script":       func(u *api.Tx) { u.Outs[2].Script = "third\x00" },
		"an empty Script":         func(u *api.Tx) { u.Outs[1].Script = "x" },
		"Scripts the other way":   func(u *api.Tx) { u.Outs[0].Script, u.Outs[2].Script = u.Outs[2].Script, u.Outs[0].Script },
		"Outs the other way":      func(u *api.Tx) { slices.Reverse(u.Outs) },
		"an Out more":             func(u *api.Tx) { u.Outs = append(u.Outs, api.Out{}) },
		"an Out less":             func(u *api.Tx) { u.Outs = u.Outs[:2] },
		"no Out":                  func(u *api.Tx) { u.Outs = nil },
	}
}

func wantEqual(t *testing.T, name string, u, v api.Tx, want bool) {
	t.Helper()
	if tx.Equal(u, v) != want || tx.Equal(v, u) != want {
		t.Errorf("P5.3: Equal of %s is %v and %v, not %v", name, tx.Equal(u, v), tx.Equal(v, u), want)
	}
}

func TestEqual(t *testing.T) {
	for _, u := range []api.Tx{{}, rich(), plain(1, 1), plain(300, 300), {Ins: insOf(2)}, {Outs: outsOf(2)}, tx.Grant(3, outsOf(1))} {
		wantEqual(t, "the same", u, u, true)
		wantEqual(t, "one and its twin", u, twin(u), true)
	}
	for name, change := range changes() {
		u := rich()
		change(&u)
		wantEqual(t, "two with another "+name, rich(), u, false)
		wantEqual(t, "two with the same "+name, u, twin(u), true)
	}
	wantEqual(t, "two of many Ins, of which the last is another", plain(256, 1), func() api.Tx { u := plain(256, 1); u.Ins[255].Sequence++; return u }(), false)
	wantEqual(t, "two of many Outs, of which the last is another", plain(1, 256), func() api.Tx { u := plain(1, 256); u.Outs[255].Value++; return u }(), false)
}

func TestEqualOfEmptyLists(t *testing.T) {
	wantEqual(t, "nothing, nil or not", api.Tx{}, api.Tx{Ins: []api.In{}, Outs: []api.Out{}}, true)
	wantEqual(t, "nothing, with room or not", api.Tx{}, api.Tx{Ins: insOf(3)[:0], Outs: outsOf(3)[:0]}, true)
	wantEqual(t, "Witnesses, nil or not", api.Tx{Ins: []api.In{{From: base}}}, api.Tx{Ins: []api.In{{From: base, Witness: []string{}}}}, true)
	wantEqual(t, "Witnesses, with room or not", api.Tx{Ins: []api.In{{From: base}}}, api.Tx{Ins: []api.In{{From: base, Witness: []string{"x"}[:0]}}}, true)
	wantEqual(t, "nothing and an empty In", api.Tx{}, api.Tx{Ins: make([]api.In, 1)}, false)
	wantEqual(t, "nothing and an empty Out", api.Tx{}, api.Tx{Outs: make([]api.Out, 1)}, false)
}

func TestCopy(t *testing.T) {
	odd := api.Tx{Ins: []api.In{{Witness: slices.Repeat([]string{strings.Repeat("w", 100)}, 9)}, {From: base}, {From: base}}, Outs: outsWorth(-1, math.MaxInt, math.MinInt), Version: math.MaxUint32, LockTime: math.MaxUint32}
	for _, u := range []api.Tx{{}, rich(), odd, plain(1, 1), plain(256, 256), plain(1000, 1000), tx.Grant(7, outsOf(2))} {
		if c := tx.Copy(u); told(c) != told(u) || !tx.Equal(c, u) {
			t.Errorf("P5.3: the copy of %s is %s", brief(u), brief(c))
		}
	}
}

func TestCopyOfEmptyLists(t *testing.T) {
	for _, u := range []api.Tx{
		{Version: 3, LockTime: 4},
		{Version: 3, LockTime: 4, Ins: []api.In{}, Outs: []api.Out{}},
		{Version: 3, LockTime: 4, Ins: insOf(3)[:0], Outs: outsOf(3)[:0]},
		{Version: 3, LockTime: 4, Ins: []api.In{{From: base}, {From: point(1), Witness: []string{}}, {From: point(2), Witness: []string{"x"}[:0]}}},
	} {
		c := tx.Copy(u)
		if told(c) != told(u) {
			t.Errorf("P5.3: the copy of %s is %s", told(u), told(c))
		}
		before := fmt.Sprint(u.Ins[:cap(u.Ins)], u.Outs[:cap(u.Outs)])
		c.Ins, c.Outs = append(c.Ins, api.In{Sequence: 9}), append(c.Outs, api.Out{Value: 9})
		for i := range c.Ins {
			c.Ins[i].Witness = append(c.Ins[i].Witness, "y")
		}
		for _, in := range u.Ins {
			if l := in.Witness[:cap(in.Witness)]; slices.Contains(l, "y") {
				t.Errorf("P5.3: a copy's Witness was changed, and with it %q", l)
			}
		}
		if fmt.Sprint(u.Ins[:cap(u.Ins)], u.Outs[:cap(u.Outs)]) != before {
			t.Errorf("P5.3: a copy was changed, and with it %s", told(u))
		}
	}
}

// TestCopyChangedAfterwards: neither of both follows, when the other one is changed in any part.
func TestCopyChangedAfterwards(t *testing.T) {
	for name, change := range changes() {
		u := rich()
		c := tx.Copy(u)
		if change(&u); told(c) != told(rich()) {
			t.Errorf("P5.3: a transaction was changed (%s), and with it its copy: %s", name, told(c))
		}
		u = rich()
		c, other := tx.Copy(u), tx.Copy(u)
		if change(&c); told(u) != told(rich()) || told(other) != told(rich()) {
			t.Errorf("P5.3: a copy was changed (%s), and with it %s, or another copy, %s", name, told(u), told(other))
		}
		if told(c) == told(rich()) {
			t.Errorf("%s: nothing was changed", name)
		}
	}
}

// TestCopyWithRoom: what is put behind a copy's lists stands nowhere else.
func TestCopyWithRoom(t *testing.T) {
	part, whole := cut()
	witness := part.Ins[0].Witness[:5]
	before, items := told(whole), fmt.Sprintf("%q", witness)
	c := tx.Copy(part)
	c.Ins, c.Outs = append(c.Ins, api.In{Sequence: 9}), append(c.Outs, api.Out{Value: 9})
	for i := range c.Ins {
		c.Ins[i].Witness = append(c.Ins[i].Witness, "y", "y", "y")
	}
	if told(whole) != before || fmt.Sprintf("%q", witness) != items {
		t.Errorf("P5.3: a copy was changed, and with it %s, %q", told(whole), witness)
	}
	for i, in := range c.Ins {
		if len(in.Witness) < 3 || !slices.Equal(in.Witness[len(in.Witness)-3:], []string{"y", "y", "y"}) || i == 0 && in.Witness[0] != "one" {
			t.Errorf("P5.3: a copy's Witness %d is %q", i, in.Witness)
		}
	}
}

// TestCopyOfSharedWitnesses: no two lists of a copy share memory, also where two of the transaction's do.
func TestCopyOfSharedWitnesses(t *testing.T) {
	shared := []string{"a", "b", "c", "d"}
	u := api.Tx{Ins: []api.In{{From: point(0), Witness: shared}, {From: point(1), Witness: shared}, {From: point(2), Witness: shared[:2]}}}
	c := tx.Copy(u)
	c.Ins[0].Witness[0] = "changed"
	c.Ins[2].Witness = append(c.Ins[2].Witness, "more")
	if c.Ins[1].Witness[0] != "a" || c.Ins[2].Witness[0] != "a" || c.Ins[1].Witness[2] != "c" || c.Ins[0].Witness[2] != "c" || !slices.Equal(shared, []string{"a", "b", "c", "d"}) {
		t.Errorf("rule 4: lists of a copy share memory: %s; %q", told(c), shared)
	}
}
