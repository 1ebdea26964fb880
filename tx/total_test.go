package tx_test

import (
	"fmt"
	"math"
	"slices"
	"strings"
	"testing"

	"kedge/api"
	"kedge/tx"
)

func TestTotalWrittenOut(t *testing.T) {
	for _, c := range []struct {
		values []int
		want   int
		e      api.Errno
	}{
		{nil, 0, api.OK},
		{[]int{0}, 0, api.OK},
		{[]int{3, 4}, 7, api.OK},
		{[]int{5, 5, 5}, 15, api.OK},
		{[]int{api.MaxMoney}, 2100000000000000, api.OK},
		{[]int{1, api.MaxMoney - 2, 1}, 2100000000000000, api.OK},
		{[]int{api.MaxMoney, 1}, 0, api.ErrRange},
		{[]int{7, -1}, 0, api.ErrRange},
		{[]int{api.MaxMoney + 1}, 0, api.ErrRange},
		{[]int{math.MaxInt, math.MaxInt, 9}, 0, api.ErrRange},
	} {
		if n, e := tx.Total(api.Tx{Outs: outsWorth(c.values...)}); n != c.want || e != c.e {
			t.Errorf("P5.2: Total of %d is %d, %d, not %d, %d", c.values, n, e, c.want, c.e)
		}
	}
}

func TestTotal(t *testing.T) {
	lists := append(valueLists(), nil, slices.Repeat([]int{1}, 70000), slices.Repeat([]int{api.MaxMoney}, 8785), slices.Repeat([]int{1 << 50}, 1<<14))
	for _, values := range lists {
		want, wantE := 0, api.ErrRange
		if sum, ok := sumOf(values); ok {
			want, wantE = sum, api.OK
		}
		// Ins, Scripts and counts that Check refuses don't matter.
		for _, ins := range [][]api.In{nil, insOf(1), spending(base, base), insOf(300)} {
			outs := outsWorth(values...)
			for i := range outs {
				outs[i].Script = strings.Repeat("s", 10*(i%9))
			}
			if n, e := tx.Total(api.Tx{Ins: ins, Outs: outs}); n != want || e != wantE {
				t.Errorf("P5.2: Total of %d Values, %d .., is %d, %d, not %d, %d", len(values), values[:min(4, len(values))], n, e, want, wantE)
			}
		}
	}
}

func TestBase(t *testing.T) {
	for _, u := range []api.Tx{
		{Ins: spending(base)},
		{Ins: spending(api.Point{ID: string(make([]byte, 32)), Index: 1<<32 - 1})},
		{Ins: spending(base), Outs: outsOf(3)},
		{Ins: spending(base), Outs: outsWorth(-1)},
		{Version: 1, Ins: spending(base), Outs: outsOf(300), LockTime: 9},
		{Ins: []api.In{{From: base, Sequence: 7}}},
		{Ins: []api.In{{From: base, Witness: make([]string, 9)}}},
		tx.Grant(0, nil),
		tx.Grant(5, outsOf(2)),
	} {
		if !tx.Base(u) {
			t.Errorf("P5.2: %s is no grant", brief(u))
		}
	}
}

func TestBaseOfWhatIsNearlyAGrant(t *testing.T) {
	nearly := [][]api.In{nil, {}, make([]api.In, 1), spending(base, base), spending(base, point(0)), spending(point(0), base), spending(base, base, base), insOf(1), insOf(2)}
	for _, p := range nearBase() {
		nearly = append(nearly, spending(p))
	}
	for _, size := range []int{0, 1, 31, 33, 64} {
		nearly = append(nearly, spending(api.Point{ID: strings.Repeat("\x00", size), Index: math.MaxUint32}))
	}
	nearly = append(nearly, spending(api.Point{ID: strings.Repeat("0", 32), Index: math.MaxUint32}))
	for _, ins := range nearly {
		u := tx.Grant(3, outsOf(1))
		u.Ins = ins
		if tx.Base(u) {
			t.Errorf("P5.2: %s is a grant", brief(u))
		}
	}
}

func TestGrantHeights(t *testing.T) {
	for _, c := range []struct {
		height int
		want   uint32
	}{
		{0, 0}, {1, 1}, {5, 5}, {1000000, 1000000}, {1<<31 - 1, 1<<31 - 1}, {1 << 31, 1 << 31}, {1<<32 - 1, 4294967295},
		{1 << 32, 0}, {1<<32 + 1, 1}, {1<<33 + 77, 77}, {0x123456789abcdef0, 0x9abcdef0}, {math.MaxInt, 4294967295}, {math.MaxInt - 1, 4294967294},
		{-1, 4294967295}, {-2, 4294967294}, {-1 << 31, 1 << 31}, {-1<<31 - 1, 1<<31 - 1}, {-1 << 32, 0}, {-1<<32 + 3, 3}, {-1<<32 - 1, 4294967295}, {math.MinInt, 0}, {math.MinInt + 1, 1},
	} {
		outs := outsOf(2)
		want := api.Tx{Version: 2, Ins: []api.In{{From: base, Sequence: 4294967295}}, Outs: outsOf(2), LockTime: c.want}
		if g := tx.Grant(c.height, outs); told(g) != told(want) {
			t.Errorf("P5.2: Grant(%d, ..) is %s, not %s", c.height, told(g), told(want))
		}
	}
}

func TestGrantOuts(t *testing.T) {
	for _, outs := range [][]api.Out{nil, {}, outsOf(1), outsOf(256), outsOf(300), outsWorth(-1, math.MaxInt, math.MinInt), {{Script: strings.Repeat("s", 70000)}}} {
		g := tx.Grant(5, outs)
		want := api.Tx{Version: 2, Ins: []api.In{{From: base, Sequence: 4294967295}}, Outs: outs, LockTime: 5}
		if told(g) != told(want) || !tx.Base(g) {
			t.Errorf("P5.2: Grant of %d Outs is %s, not %s", len(outs), brief(g), brief(want))
		}
		if len(g.Ins[0].Witness) != 0 {
			t.Errorf("P5.2: a grant's Witness is %q", g.Ins[0].Witness)
		}
	}
}

func TestGrantIsNewMemory(t *testing.T) {
	outs := make([]api.Out, 3, 8)
	copy(outs, outsOf(3))
	g, h := tx.Grant(5, outs), tx.Grant(5, outs)
	before := told(g)
	outs[0].Value, outs[1].Script, outs[2] = 99, "changed", api.Out{}
	if told(g) != before {
		t.Errorf("P5.2: outs were changed, and with them the grant: %s", told(g))
	}
	handed := fmt.Sprint(outs[:8])
	for i := range g.Outs {
		g.Outs[i] = api.Out{Value: 7, Script: "changed"}
	}
	g.Outs = append(g.Outs, api.Out{Value: 8})
	g.Ins[0] = api.In{From: point(1)}
	g.Ins = append(g.Ins, api.In{From: point(2)})
	if fmt.Sprint(outs[:8]) != handed {
		t.Errorf("P5.2: a grant was changed, and with it outs: %v", outs[:8])
	}
	if told(h) != before || told(tx.Grant(5, outsOf(3))) != before {
		t.Errorf("P5.2: a grant was changed, and with it another one: %s", told(h))
	}
}
