package block_test

import (
	"math"
	"strings"
	"testing"

	"kedge/api"
	"kedge/coins"
	"kedge/tx"
)

// TestGrantPlace: first alone.
func TestGrantPlace(t *testing.T) {
	g, h := tx.Grant(9, outs(50)), tx.Grant(9, outs(51))
	a, b := spend(point(0), 90), spend(point(1), 180)
	for _, x := range []struct {
		l  []api.Tx
		at int // -1: it is right
	}{
		{[]api.Tx{g}, -1}, {[]api.Tx{g, a}, -1}, {[]api.Tx{g, a, b}, -1}, {[]api.Tx{a, b}, -1},
		{[]api.Tx{a, g}, 1}, {[]api.Tx{a, b, g}, 2}, {[]api.Tx{a, g, b}, 1},
		{[]api.Tx{g, g}, 1}, {[]api.Tx{g, h}, 1}, {[]api.Tx{g, a, h}, 2}, {[]api.Tx{g, a, g, b}, 2}, {[]api.Tx{a, g, h}, 1},
	} {
		if x.at >= 0 {
			wantRefused(t, holding(100, 200), x.l, 9, faultAt(x.at, api.ErrForm))
			continue
		}
		if _, err := apply(t, holding(100, 200), x.l, 9); err != nil {
			t.Errorf("P12.1: %v:%s", err, told(x.l))
		}
	}
}

// TestGrantHeight: its LockTime is the block's height, and no other one.
func TestGrantHeight(t *testing.T) {
	for _, height := range []int{0, 1, 9, 255, 256, 65535, 65536, 65545, top - 1, top} {
		for _, locked := range []int{0, 1, 8, 9, 10, 255, 256, 65535, 65536, 65545, top - 1, top, top + 1, math.MaxInt32, math.MaxUint32 - 1, math.MaxUint32} {
			g := tx.Grant(locked, outs(50))
			if locked != height {
				wantRefused(t, coins.New(), []api.Tx{g}, height, faultAt(0, api.ErrForm))
				continue
			}
			wantApplied(t, coins.New(), []api.Tx{g}, height, nil, []coins.Entry{entry(out(g, 0), coin(50, height))})
		}
	}
}

// TestGrantByWords: what is a grant by layer 5's words is one, whatever else it has.
func TestGrantByWords(t *testing.T) {
	for _, version := range []uint32{0, 1, 2, math.MaxUint32} {
		for _, sequence := range []uint32{0, 1, 65535, 1 << 31, plain, final} {
			g := tx.Grant(9, outs(50, 0, 7))
			g.Version, g.Ins[0].Sequence, g.Ins[0].Witness = version, sequence, []string{"", "any", "thing"}
			made := []coins.Entry{entry(out(g, 0), coin(50, 9)), entry(out(g, 1), coin(0, 9)), entry(out(g, 2), coin(7, 9))}
			wantApplied(t, coins.New(), []api.Tx{g}, 9, nil, made)
		}
	}
}

// TestGrantSpendsNothing: not even a coin of the base point.
func TestGrantSpendsNothing(t *testing.T) {
	s := setOf(entry(base, coin(100, 1)))
	g := tx.Grant(9, outs(50))
	wantApplied(t, s, []api.Tx{g}, 9, nil, []coins.Entry{entry(out(g, 0), coin(50, 9))})
	if c, ok := s.Get(base); !ok || c != coin(100, 1) {
		t.Errorf("P12.1: the coin of the base point is %v, %v", c, ok)
	}
	// Nor does one of several Ins spend it: that is no grant.
	wantRefused(t, setOf(entry(base, coin(100, 1)), entry(point(0), coin(5, 1))), []api.Tx{join([]api.Point{base, point(0)}, 50)}, 9, faultAt(0, api.ErrForm))
}

// badGrant that layer 5's Check refuses.
type badGrant struct {
	name  string
	grant api.Tx
	want  api.Errno
}

// badGrants: by each error that Check may have of one.
func badGrants() []badGrant {
	witness := func(w ...string) api.Tx {
		g := tx.Grant(9, outs(50))
		g.Ins[0].Witness = w
		return g
	}
	return []badGrant{
		{"no Outs", tx.Grant(9, nil), api.ErrCount},
		{"257 Outs", tx.Grant(9, make([]api.Out, 257)), api.ErrCount},
		{"5 texts", witness("", "", "", "", ""), api.ErrCount},
		{"a long Script", tx.Grant(9, []api.Out{{Value: 1}, {Value: 1, Script: strings.Repeat("s", 41)}}), api.ErrLong},
		{"a long text", witness("", strings.Repeat("w", 81)), api.ErrLong},
		{"a Value below 0", tx.Grant(9, outs(1, -1)), api.ErrRange},
		{"the least Value", tx.Grant(9, outs(math.MinInt)), api.ErrRange},
		{"a Value above MaxMoney", tx.Grant(9, outs(most+1)), api.ErrRange},
		{"too much together", tx.Grant(9, outs(most, 1)), api.ErrRange},
	}
}

// TestBadGrants: what Check refuses; and that goes ahead of what the grant is for this block.
func TestBadGrants(t *testing.T) {
	a := spend(point(0), 90)
	for _, x := range badGrants() {
		t.Run(x.name, func(t *testing.T) {
			wantRefused(t, holding(100), []api.Tx{x.grant}, 9, faultAt(0, x.want))
			wantRefused(t, holding(100), []api.Tx{x.grant, a}, 9, faultAt(0, x.want))
			wantRefused(t, holding(100), []api.Tx{x.grant, x.grant, {}}, 9, faultAt(0, x.want))
			wantRefused(t, holding(100), []api.Tx{x.grant}, 10, faultAt(0, x.want))
			wantRefused(t, holding(100), []api.Tx{a, x.grant}, 9, faultAt(1, x.want))
			wantRefused(t, holding(100), []api.Tx{tx.Grant(9, outs(5)), a, x.grant}, 9, faultAt(2, x.want))
			wantRefused(t, holding(most), []api.Tx{x.grant}, 9, faultAt(0, x.want))
		})
	}
}

// TestFullSet: up to MaxMoney, and no further.
func TestFullSet(t *testing.T) {
	for _, x := range []struct {
		room int
		outs []int
		full bool
	}{
		{0, []int{0}, false}, {0, []int{0, 0}, false}, {0, []int{1}, true}, {0, []int{0, 1}, true}, {0, []int{most}, true},
		{1, []int{1}, false}, {1, []int{2}, true}, {1, []int{1, 1}, true}, {1, []int{1, 0}, false},
		{500, []int{200, 300}, false}, {500, []int{200, 299}, false}, {500, []int{200, 301}, true}, {500, []int{501}, true}, {500, []int{501, 0}, true}, {500, []int{1, 2, 3, 495}, true},
		{most, []int{most}, false}, {most, []int{most - 1, 1}, false},
	} {
		s := holding(most - x.room)
		g := tx.Grant(9, outs(x.outs...))
		if x.full {
			wantRefused(t, s, []api.Tx{g}, 9, faultAt(0, api.ErrRange))
			continue
		}
		var made []coins.Entry
		for i, v := range x.outs {
			made = append(made, entry(out(g, i), coin(v, 9)))
		}
		wantApplied(t, s, []api.Tx{g}, 9, nil, made)
	}
}

// TestFullAheadOfFees: fees that are paid behind the grant make no room for it.
func TestFullAheadOfFees(t *testing.T) {
	s := holding(most-100, 100)
	g := tx.Grant(9, outs(1))
	wantRefused(t, s, []api.Tx{g, spend(point(1), 50)}, 9, faultAt(0, api.ErrRange))
	wantApplied(t, s, []api.Tx{spend(point(1), 50)}, 9, []coins.Entry{entry(point(1), coin(100, 1))}, []coins.Entry{entry(out(spend(point(1), 50), 0), coin(50, 9))})
	wantApplied(t, s, []api.Tx{g}, 9, nil, []coins.Entry{entry(out(g, 0), coin(1, 9))})
}

// TestGrantAgain: in a block of the same height that comes once more, its Outs stand there already.
func TestGrantAgain(t *testing.T) {
	s := coins.New()
	g := tx.Grant(9, outs(50, 60))
	if _, err := apply(t, s, []api.Tx{g}, 9); err != nil {
		t.Fatal(err)
	}
	wantRefused(t, s, []api.Tx{g}, 9, faultAt(0, api.ErrTwice))
	s.Take(out(g, 0))
	wantRefused(t, s, []api.Tx{g}, 9, faultAt(0, api.ErrTwice)) // the second Out
	s.Take(out(g, 1))
	wantApplied(t, s, []api.Tx{g}, 9, nil, []coins.Entry{entry(out(g, 0), coin(50, 9)), entry(out(g, 1), coin(60, 9))})
}

// TestFirstOut: of Outs that can't be put in the first one is told, and of an Out that stands there and is too much, that it stands there.
func TestFirstOut(t *testing.T) {
	g := tx.Grant(9, outs(10, 20, 30))
	for _, x := range []struct {
		room     int
		standing []int
		want     api.Errno
	}{
		{100, nil, api.OK}, {60, nil, api.OK}, {59, nil, api.ErrRange}, {9, nil, api.ErrRange},
		{100, []int{0}, api.ErrTwice}, {100, []int{1}, api.ErrTwice}, {100, []int{2}, api.ErrTwice},
		{9, []int{1}, api.ErrRange}, {9, []int{2}, api.ErrRange}, {9, []int{0}, api.ErrTwice},
		{29, []int{2}, api.ErrRange}, {30, []int{2}, api.ErrTwice}, {59, []int{2}, api.ErrTwice}, {0, []int{0, 1, 2}, api.ErrTwice}, {10, []int{1, 2}, api.ErrTwice},
	} {
		s := holding(most - x.room)
		for _, i := range x.standing {
			s.Put(out(g, i), coin(0, 3))
		}
		want := faultAt(0, x.want)
		if x.want != api.OK {
			wantRefused(t, s, []api.Tx{g}, 9, want)
			wantRefused(t, s, []api.Tx{g, {}}, 9, want)
			continue
		}
		if _, err := apply(t, s, []api.Tx{g}, 9); err != nil {
			t.Errorf("P12.1: %v, with room for %d", err, x.room)
		}
	}
}

// TestGrantSpent: what a grant makes may be spent in its own block.
func TestGrantSpent(t *testing.T) {
	g := tx.Grant(9, outs(50, 60))
	a := join([]api.Point{out(g, 1), out(g, 0)}, 110)
	wantApplied(t, coins.New(), []api.Tx{g, a}, 9, nil, []coins.Entry{entry(out(a, 0), coin(110, 9))})
	b := join([]api.Point{out(g, 1)}, 55)
	wantApplied(t, coins.New(), []api.Tx{g, b}, 9, nil, inOrder(entry(out(g, 0), coin(50, 9)), entry(out(b, 0), coin(55, 9))))
	wantRefused(t, coins.New(), []api.Tx{g, a, b}, 9, faultIn(2, 0, api.ErrNone))
}
