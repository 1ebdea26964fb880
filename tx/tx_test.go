package tx_test

import (
	"fmt"
	"math"
	"strings"
	"testing"

	"kedge/api"
	"kedge/tx"
)

// base: the base point, written out.
var base = api.Point{ID: strings.Repeat("\x00", 32), Index: 4294967295}

// point: outputs by number, each another one.
func point(n int) api.Point {
	return api.Point{ID: fmt.Sprintf("%032d", n/3), Index: uint32(n % 3)}
}

func insOf(n int) []api.In {
	l := make([]api.In, n)
	for i := range l {
		l[i] = api.In{From: point(i), Sequence: uint32(i)}
	}
	return l
}

func outsOf(n int) []api.Out {
	l := make([]api.Out, n)
	for i := range l {
		l[i] = api.Out{Value: i + 1, Script: "script"}
	}
	return l
}

func outsWorth(values ...int) []api.Out {
	l := make([]api.Out, len(values))
	for i, v := range values {
		l[i].Value = v
	}
	return l
}

func spending(l ...api.Point) []api.In {
	ins := make([]api.In, len(l))
	for i, p := range l {
		ins[i].From = p
	}
	return ins
}

// plain: a transaction like others, with so many Ins and Outs.
func plain(ins, outs int) api.Tx {
	return api.Tx{Version: 2, Ins: insOf(ins), Outs: outsOf(outs), LockTime: 7}
}

// rich: a transaction with something in every part.
func rich() api.Tx {
	return api.Tx{
		Version: 2,
		Ins: []api.In{
			{From: point(0), Sequence: 11, Witness: []string{"one", "two"}},
			{From: point(1), Sequence: 12},
			{From: point(5), Sequence: 13, Witness: []string{"", "three", "four", "five"}},
		},
		Outs:     []api.Out{{Value: 100, Script: "first"}, {Value: 0}, {Value: 300, Script: "third"}},
		LockTime: 500,
	}
}

// told: all that a transaction has, in a text; an empty list is told alike, nil or not.
func told(t api.Tx) string {
	var b strings.Builder
	fmt.Fprintf(&b, "%d %d", t.Version, t.LockTime)
	for _, in := range t.Ins {
		fmt.Fprintf(&b, " in %q %d %d %q", in.From.ID, in.From.Index, in.Sequence, in.Witness)
	}
	for _, out := range t.Outs {
		fmt.Fprintf(&b, " out %d %q", out.Value, out.Script)
	}
	return b.String()
}

// twin: a transaction in memory of its own, made without the package's help.
func twin(t api.Tx) api.Tx {
	u := api.Tx{Version: t.Version, LockTime: t.LockTime}
	for _, in := range t.Ins {
		u.Ins = append(u.Ins, api.In{From: in.From, Sequence: in.Sequence, Witness: append([]string(nil), in.Witness...)})
	}
	u.Outs = append(u.Outs, t.Outs...)
	return u
}

func brief(t api.Tx) string {
	s := told(t)
	return s[:min(len(s), 300)]
}

// cut: a transaction whose lists have more behind their lengths, all of it wrong; and the whole lists.
func cut() (api.Tx, api.Tx) {
	whole := rich()
	whole.Ins[0].Witness = append(whole.Ins[0].Witness, "x", "y", strings.Repeat("z", 81))
	whole.Ins = append(whole.Ins, api.In{From: point(0), Witness: make([]string, 9)}, api.In{From: base}, api.In{From: api.Point{ID: "short"}})
	whole.Outs = append(whole.Outs, api.Out{Value: -1}, api.Out{Value: math.MaxInt, Script: strings.Repeat("s", 41)})
	part := whole
	part.Ins, part.Outs = whole.Ins[:3], whole.Outs[:3]
	part.Ins[0].Witness = whole.Ins[0].Witness[:2]
	return part, whole
}

// TestNothingIsChanged: no call changes what it is handed, nor what lies behind a list's length, nor reads that.
func TestNothingIsChanged(t *testing.T) {
	part, whole := cut()
	witness := part.Ins[0].Witness[:5]
	before, behind, items := told(part), told(whole), fmt.Sprintf("%q", witness)
	if before != told(rich()) {
		t.Fatalf("the part is %s", before)
	}
	if e := tx.Check(part); e != api.OK {
		t.Errorf("rule 4: Check reads behind the lists: %d", e)
	}
	if n, e := tx.Total(part); n != 400 || e != api.OK {
		t.Errorf("rule 4: Total reads behind the lists: %d, %d", n, e)
	}
	if at, ok := tx.Spends(part, base); at != 0 || ok {
		t.Errorf("rule 4: Spends reads behind the list: %d, %v", at, ok)
	}
	if !tx.Equal(part, rich()) || !tx.Equal(rich(), part) {
		t.Errorf("rule 4: Equal reads behind the lists")
	}
	one := api.Tx{Ins: []api.In{{From: base}, {From: point(0)}}[:1]}
	if !tx.Base(one) || tx.Base(api.Tx{Ins: []api.In{{From: base}}[:0]}) {
		t.Errorf("rule 4: Base reads behind the list")
	}
	copied, granted := tx.Copy(part), tx.Grant(1, part.Outs)
	if told(copied) != before || len(granted.Outs) != 3 {
		t.Errorf("rule 4: Copy or Grant reads behind the lists")
	}
	noBehind(t, copied)
	noBehind(t, granted)
	if told(part) != before || told(whole) != behind || fmt.Sprintf("%q", witness) != items {
		t.Errorf("rule 4: what was handed in is %s, behind it %s, %q", told(part), told(whole), witness)
	}
}

// noBehind: what lies behind the lengths of an answer's lists is nothing of what was handed in.
func noBehind(t *testing.T, u api.Tx) {
	t.Helper()
	for _, out := range u.Outs[len(u.Outs):cap(u.Outs)] {
		if out != (api.Out{}) {
			t.Errorf("rule 4: behind the Outs lies %v", out)
		}
	}
	for _, in := range u.Ins[len(u.Ins):cap(u.Ins)] {
		if in.From != (api.Point{}) || in.Witness != nil {
			t.Errorf("rule 4: behind the Ins lies %v", in)
		}
	}
	for _, in := range u.Ins {
		for _, item := range in.Witness[len(in.Witness):cap(in.Witness)] {
			if item != "" {
				t.Errorf("rule 4: behind a Witness lies %q", item)
			}
		}
	}
}

// TestNothingPanics: P1, at what is empty in every part.
func TestNothingPanics(t *testing.T) {
	for _, u := range []api.Tx{{}, {Ins: []api.In{}, Outs: []api.Out{}}, {Ins: make([]api.In, 1)}, {Outs: make([]api.Out, 1)}} {
		if e := tx.Check(u); e != api.ErrCount {
			t.Errorf("P5.1: Check of %s is %d", told(u), e)
		}
		if n, e := tx.Total(u); n != 0 || e != api.OK {
			t.Errorf("P5.2: Total of %s is %d, %d", told(u), n, e)
		}
		if tx.Base(u) {
			t.Errorf("P5.2: %s is a grant", told(u))
		}
		if at, ok := tx.Spends(u, base); at != 0 || ok {
			t.Errorf("P5.3: %s spends the base point", told(u))
		}
		if !tx.Equal(u, tx.Copy(u)) {
			t.Errorf("P5.3: %s isn't its copy", told(u))
		}
	}
}

// places of a list at which a thing may stand: each of a short one, the first, the last and one between of a long one.
func places(length int) []int {
	if length > 4 {
		return []int{0, length / 2, length - 1}
	}
	var l []int
	for i := range length {
		l = append(l, i)
	}
	return l
}
