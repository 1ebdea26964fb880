package block_test

import (
	"fmt"
	"math"
	"slices"
	"strings"
	"testing"

	"kedge/api"
	"kedge/block"
	"kedge/coins"
	"kedge/tx"
)

// isOrdered: does each point stand behind the one ahead of it?
func isOrdered(l []coins.Entry) bool {
	for i := 1; i < len(l); i++ {
		a, b := l[i-1].Point, l[i].Point
		if a.ID > b.ID || a.ID == b.ID && a.Index >= b.Index {
			return false
		}
	}
	return true
}

// farPoints: near to each other, and at the ends of bytes and of Indexes.
func farPoints() []api.Point {
	var l []api.Point
	for _, id := range []string{strings.Repeat("\x00", 32), "\x00" + strings.Repeat("\xff", 31), strings.Repeat("\x7f", 32), "\x80" + strings.Repeat("\x00", 31), strings.Repeat("\xff", 31) + "\xfe", strings.Repeat("\xff", 32)} {
		for _, index := range []uint32{0, 1, 2, 255, 256, 65536, math.MaxInt32, 1 << 31, math.MaxUint32 - 1} {
			l = append(l, api.Point{ID: id, Index: index})
		}
	}
	return l
}

// TestOrder: Spent and Made are in the order of their points, in whatever order the transactions spend and pay.
func TestOrder(t *testing.T) {
	points := farPoints()
	var spent []coins.Entry
	for i, p := range points {
		spent = append(spent, entry(p, coin(100+i, 1)))
	}
	backward := slices.Clone(points)
	slices.Reverse(backward)
	for _, from := range [][]api.Point{points, backward} {
		var l []api.Tx
		var made []coins.Entry
		for part := range slices.Chunk(from, 9) {
			u := join(part, 1, 2, 3, 4, 5, 6, 7, 8, 9, 10, 11, 12)
			l = append(l, u)
			for i := range u.Outs {
				made = append(made, entry(out(u, i), coin(i+1, 9)))
			}
		}
		u := wantApplied(t, setOf(spent...), l, 9, spent, inOrder(made...))
		if !isOrdered(u.Spent) || !isOrdered(u.Made) {
			t.Errorf("P12.1: not in order: Spent %v, Made %v", u.Spent, u.Made)
		}
	}
}

// TestOrderAgain: the same each time, though maps are gone through in another order each time.
func TestOrderAgain(t *testing.T) {
	s := row()
	first, err := block.Apply(setOf(s.coins...), s.block, 30)
	if err != nil {
		t.Fatal(err)
	}
	for range 30 {
		u, err := block.Apply(setOf(s.coins...), s.block, 30)
		if err != nil || !slices.Equal(u.Spent, first.Spent) || !slices.Equal(u.Made, first.Made) {
			t.Fatalf("P12.1: %v, %v, and then %v, %v", first.Spent, first.Made, u, err)
		}
	}
}

// TestWithinBlock: what was made and spent within the block is in neither, what was made ahead of it is in Spent.
func TestWithinBlock(t *testing.T) {
	a := spend(point(0), 40, 30, 20)
	b := spend(out(a, 1), 25)
	c := join([]api.Point{out(b, 0), point(1), out(a, 0)}, 200, 60)
	spent := []coins.Entry{entry(point(0), coin(100, 1)), entry(point(1), coin(200, 1))}
	s := holding(100, 200, 300)
	wantApplied(t, s, []api.Tx{a, b, c}, 9, spent, inOrder(entry(out(a, 2), coin(20, 9)), entry(out(c, 0), coin(200, 9)), entry(out(c, 1), coin(60, 9))))
	// In blocks of their own all of it is told, each time with the height of its block.
	s = holding(100, 200, 300)
	wantApplied(t, s, []api.Tx{a}, 9, spent[:1], inOrder(entry(out(a, 0), coin(40, 9)), entry(out(a, 1), coin(30, 9)), entry(out(a, 2), coin(20, 9))))
	wantApplied(t, s, []api.Tx{b}, 10, []coins.Entry{entry(out(a, 1), coin(30, 9))}, []coins.Entry{entry(out(b, 0), coin(25, 10))})
	wantApplied(t, s, []api.Tx{c}, 11, inOrder(spent[1], entry(out(b, 0), coin(25, 10)), entry(out(a, 0), coin(40, 9))), inOrder(entry(out(c, 0), coin(200, 11)), entry(out(c, 1), coin(60, 11))))
}

// TestMadeAgain: a coin that the block spends and then pays once more: if it is the same it is in neither list, else in both.
func TestMadeAgain(t *testing.T) {
	again := spend(point(0), 90) // pays an Out that stands there already
	same := coin(90, 9)
	p := out(again, 0)
	for i, stood := range []api.Coin{
		same, coin(90, 8), coin(91, 9), coin(89, 9), coin(0, 9), coin(90, 0),
		{Out: api.Out{Value: 90, Script: script(api.Branch{Tag: 7}, api.Branch{})}, Height: 9},
		{Out: api.Out{Value: 90, Script: script(api.Branch{})}, Height: 9},
	} {
		t.Run(fmt.Sprint(i), func(t *testing.T) {
			away := spend(p, 0)
			l := []api.Tx{away, again}
			spent, made := []coins.Entry{entry(point(0), coin(100, 1))}, []coins.Entry{entry(out(away, 0), coin(0, 9))}
			if stood != same {
				spent, made = append(spent, entry(p, stood)), append(made, entry(p, same))
			}
			s := setOf(entry(point(0), coin(100, 1)), entry(p, stood))
			wantApplied(t, s, l, 9, inOrder(spent...), inOrder(made...))
			// Spent, paid, and spent once more: it was there ahead, and isn't behind.
			twice := spend(p, 1)
			spent = inOrder(entry(point(0), coin(100, 1)), entry(p, stood))
			s = setOf(entry(point(0), coin(100, 1)), entry(p, stood))
			wantApplied(t, s, append(l, twice), 9, spent, inOrder(entry(out(away, 0), coin(0, 9)), entry(out(twice, 0), coin(1, 9))))
			// Unless it is spent ahead, it stands in the way.
			s = setOf(entry(point(0), coin(100, 1)), entry(p, stood))
			wantRefused(t, s, []api.Tx{again, away}, 9, faultAt(0, api.ErrTwice))
			// A block that made it again, and then has a wrong one, leaves the one that was there.
			wantRefused(t, s, append(l, twice, again), 9, faultIn(3, 0, api.ErrNone))
			// The first one once more spends what was made again, but its own Out stands there.
			wantRefused(t, s, []api.Tx{away, again, away}, 9, faultAt(2, api.ErrTwice))
		})
	}
}

// TestNotSpent: coins that the block doesn't touch are in neither list, also those of the same ID.
func TestNotSpent(t *testing.T) {
	a := spend(point(1), 90)
	s := setOf(entry(point(0), coin(100, 1)), entry(point(1), coin(100, 1)), entry(point(2), coin(100, 1)), entry(api.Point{ID: out(a, 0).ID, Index: 1}, coin(90, 9)))
	wantApplied(t, s, []api.Tx{a}, 9, []coins.Entry{entry(point(1), coin(100, 1))}, []coins.Entry{entry(out(a, 0), coin(90, 9))})
	if s.Len() != 4 {
		t.Errorf("P12.1: %v", s.All())
	}
}

// TestAsTheyWere: Spent are coins as they stood, with their Scripts and Heights, Made as they are paid.
func TestAsTheyWere(t *testing.T) {
	long := script(api.Branch{}, api.Branch{Tag: 5, Delay: 6, Height: 7}, api.Branch{Tag: 8})
	stood := []coins.Entry{entry(point(0), api.Coin{Out: api.Out{Value: 7, Script: long}, Height: 0}), entry(point(1), api.Coin{Out: api.Out{Value: 0, Script: script(api.Branch{})}, Height: 8})}
	u := join([]api.Point{point(1), point(0)})
	u.Outs = []api.Out{{Value: 3, Script: strings.Repeat("\xff", 40)}, {Value: 0}, {Value: 4, Script: long}}
	id := out(u, 0).ID
	made := []coins.Entry{
		entry(api.Point{ID: id, Index: 0}, api.Coin{Out: api.Out{Value: 3, Script: strings.Repeat("\xff", 40)}, Height: 9}),
		entry(api.Point{ID: id, Index: 1}, api.Coin{Height: 9}),
		entry(api.Point{ID: id, Index: 2}, api.Coin{Out: api.Out{Value: 4, Script: long}, Height: 9}),
	}
	wantApplied(t, setOf(stood...), []api.Tx{u}, 9, stood, made)
}

// TestMemory: what was handed in may be written over, and so may what was answered: neither the set nor the other one has any of it.
func TestMemory(t *testing.T) {
	s := row()
	set := setOf(s.coins...)
	l := append([]api.Tx{tx.Grant(30, outs(5, 6))}, s.block...)
	u, err := block.Apply(set, l, 30)
	if err != nil {
		t.Fatal(err)
	}
	behind := set.Copy()
	kept := block.Undo{Spent: slices.Clone(u.Spent), Made: slices.Clone(u.Made)}
	for _, x := range l {
		for i := range x.Ins {
			for n := range x.Ins[i].Witness {
				x.Ins[i].Witness[n] = "other"
			}
			x.Ins[i] = api.In{}
		}
		for i := range x.Outs {
			x.Outs[i] = api.Out{Value: 4711, Script: "other"}
		}
	}
	clear(l)
	if !sameSet(set, behind) || !slices.Equal(u.Spent, kept.Spent) || !slices.Equal(u.Made, kept.Made) {
		t.Errorf("rule 4: what was handed in is kept: %v, %v", set.All(), u)
	}
	wreck(u.Spent)
	if !slices.Equal(u.Made, kept.Made) || !sameSet(set, behind) {
		t.Errorf("rule 4: Spent shares memory: %v, %v", u.Made, set.All())
	}
	wreck(u.Made)
	if !sameSet(set, behind) {
		t.Errorf("rule 4: Made shares memory: %v", set.All())
	}
	if e := block.Revert(set, kept); e != api.OK || !sameSet(set, setOf(s.coins...)) {
		t.Errorf("P12.3: Revert: %d, %v", e, set.All())
	}
	wreck(kept.Spent)
	wreck(kept.Made)
	if !sameSet(set, setOf(s.coins...)) {
		t.Errorf("rule 4: Revert kept what was handed in: %v", set.All())
	}
}

// wreck a list, and what lies behind its length.
func wreck(l []coins.Entry) {
	l = l[:cap(l)]
	for i := range l {
		l[i] = entry(point(77), coin(4711, 77))
	}
}

// TestBehindLength: what lies behind the length of a list isn't read, nor written.
func TestBehindLength(t *testing.T) {
	a, bad := spend(point(0), 90), spend(point(9), 1)
	l := []api.Tx{a, bad, bad}
	a.Outs = append(outs(90), api.Out{Value: -1})[:1]
	a.Ins = append([]api.In{input(point(0))}, input(point(9)))[:1]
	l[0] = a
	s := holding(100)
	u := wantApplied(t, s, l[:1], 9, []coins.Entry{entry(point(0), coin(100, 1))}, []coins.Entry{entry(out(a, 0), coin(90, 9))})
	if !tx.Equal(l[1], bad) || !tx.Equal(l[2], bad) || a.Outs[:2][1].Value != -1 || a.Ins[:2][1].From != point(9) {
		t.Errorf("rule 4:%s", told(l))
	}
	wrong := entry(point(50), coin(-1, -1))
	u.Spent, u.Made = append(u.Spent, wrong)[:1], append(u.Made, wrong)[:1]
	if e := block.Revert(s, u); e != api.OK || !sameSet(s, holding(100)) {
		t.Errorf("P12.2: %d, %v", e, s.All())
	}
	if u.Spent[:2][1] != wrong || u.Made[:2][1] != wrong {
		t.Errorf("rule 4: %v", u)
	}
}

// TestNoMore: P12.3: without a grant all values together are less by the fees, and never more; what has no fee leaves them the same.
func TestNoMore(t *testing.T) {
	for _, pays := range [][]int{{100}, {99}, {50, 50}, {0}, {0, 0, 1}} {
		s := holding(100, 200)
		sum := 0
		for _, v := range pays {
			sum += v
		}
		if _, err := apply(t, s, []api.Tx{spend(point(0), pays...)}, 9); err != nil || s.Total() != 200+sum {
			t.Errorf("P12.3: %v, %d with Outs of %v", err, s.Total(), pays)
		}
	}
	for _, pays := range [][]int{{101}, {100, 1}, {most}, {-1, 101}, {most, most}} {
		s := holding(100, 200)
		if _, err := apply(t, s, []api.Tx{spend(point(1), 200), spend(point(0), pays...)}, 9); api.Place(err) != 1 || s.Total() != 300 {
			t.Errorf("P12.3: %v, %d with Outs of %v", err, s.Total(), pays)
		}
	}
}
