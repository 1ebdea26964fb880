package block_test

import (
	"math"
	"math/rand"
	"slices"
	"testing"

	"kedge/api"
	"kedge/block"
	"kedge/coins"
	"kedge/ident"
	"kedge/tx"
)

// player makes blocks by chance, from a fixed beginning; of so many parts one is wrong.
type player struct {
	*rand.Rand
	wrong int
}

func (y player) bad() bool { return y.Intn(y.wrong) == 0 }

func (y player) one(l ...int) int { return l[y.Intn(len(l))] }

// lock: most often one that tag 7 opens at once.
func (y player) lock() string {
	switch y.Intn(12) {
	case 0:
		return script(api.Branch{})
	case 1:
		return script(api.Branch{Tag: 7, Delay: uint16(y.Intn(3))}, api.Branch{Tag: 8})
	case 2:
		return script(api.Branch{Tag: 8})
	case 3:
		return ""
	}
	return script()
}

// split a value into up to three Outs; sometimes less than all of it, sometimes more.
func (y player) split(value int) []api.Out {
	if !y.bad() {
		value -= y.Intn(min(value, 20) + 1)
	}
	if y.bad() {
		value += y.Intn(20)
	}
	var l []api.Out
	for range y.Intn(3) {
		part := y.Intn(value + 1)
		l, value = append(l, api.Out{Value: part, Script: y.lock()}), value-part
	}
	return append(l, api.Out{Value: value, Script: y.lock()})
}

// tx of some of the coins that there are, which are taken from these.
func (y player) tx(have *[]coins.Entry) api.Tx {
	u := api.Tx{Version: uint32(1 + y.Intn(2))}
	sum := 0
	for range 1 + y.Intn(3) {
		if len(*have) == 0 {
			break
		}
		at := y.Intn(len(*have))
		x := (*have)[at]
		in := input(x.Point)
		if y.Intn(6) == 0 {
			in.Sequence = uint32(y.Intn(4))
		}
		if y.bad() {
			in.Witness = signed(uint16(7 + y.Intn(2)))
		}
		if y.bad() {
			in.From = []api.Point{base, point(200), in.From}[y.Intn(3)]
		}
		u.Ins, sum = append(u.Ins, in), sum+x.Coin.Out.Value
		if !y.bad() {
			*have = slices.Delete(*have, at, at+1)
		}
	}
	u.Outs = y.split(sum)
	return u
}

// block over a set: each transaction may spend what is in the set, and what those ahead of it pay.
func (y player) block(s *coins.Set, height int) []api.Tx {
	have := opened(s.All())
	var l []api.Tx
	if y.Intn(3) > 0 {
		g := tx.Grant(height, y.split(y.Intn(500)))
		if y.bad() {
			g.LockTime += uint32(y.one(-1, 1, 1<<16))
		}
		if y.bad() {
			g.Outs[0].Value = y.one(-1, most-s.Total(), most-s.Total()+1, most)
		}
		l = append(l, g)
	}
	for range y.Intn(6) {
		if n := len(l); n > 0 && y.Intn(3) > 0 {
			have = append(have, opened(paid(l[n-1], height))...)
		}
		l = append(l, y.tx(&have))
	}
	if y.bad() && len(l) > 1 {
		a, b := y.Intn(len(l)), y.Intn(len(l))
		l[a], l[b] = l[b], l[a]
	}
	if y.bad() && len(l) > 0 {
		l = append(l, l[y.Intn(len(l))])
	}
	return l
}

// paid: what a transaction puts into a set; nothing, if it has no id.
func paid(u api.Tx, height int) []coins.Entry {
	var l []coins.Entry
	for i, o := range u.Outs {
		if p, e := ident.Pays(u, i); e == api.OK {
			l = append(l, entry(p, api.Coin{Out: o, Height: height}))
		}
	}
	return l
}

// opened: most of those that tag 7 opens.
func opened(l []coins.Entry) []coins.Entry {
	return slices.DeleteFunc(slices.Clone(l), func(x coins.Entry) bool {
		return x.Coin.Out.Script == "" || x.Coin.Out.Script == script(api.Branch{Tag: 8})
	})
}

// plant an Out of one of the block's transactions in the set already; most often one ahead in the block spends it, so that it is made again.
func (y player) plant(s *coins.Set, l []api.Tx, height int) []api.Tx {
	if len(l) == 0 {
		return l
	}
	at := y.Intn(len(l))
	for _, x := range paid(l[at], height) {
		if y.Intn(2) == 0 {
			continue
		}
		x.Coin.Height -= y.Intn(2)
		if y.Intn(4) == 0 {
			x.Coin.Out.Value++
		}
		if s.Put(x.Point, x.Coin) == api.OK && y.Intn(6) > 0 {
			l = slices.Insert(slices.Clone(l), y.one(at, at, 0), spend(x.Point, x.Coin.Out.Value/2))
			at++
		}
	}
	return l
}

// spoil what a block changed, so that a set may not go back by it.
func (y player) spoil(u block.Undo) block.Undo {
	v := block.Undo{Spent: slices.Clone(u.Spent), Made: slices.Clone(u.Made)}
	l := &v.Made
	if y.Intn(2) == 0 {
		l = &v.Spent
	}
	if len(*l) == 0 {
		return v
	}
	at := y.Intn(len(*l))
	x := (*l)[at]
	switch y.Intn(6) {
	case 0:
		*l = slices.Delete(*l, at, at+1)
	case 1:
		*l = slices.Insert(*l, y.Intn(len(*l)), x)
	case 2:
		(*l)[at].Coin.Out.Value += y.one(-1, 1, most, math.MaxInt, math.MinInt)
	case 3:
		(*l)[at].Coin.Height = y.one(-1, 0, x.Coin.Height+1, top, top+1)
	case 4:
		(*l)[at].Point = []api.Point{{}, point(300), point(0)}[y.Intn(3)]
	case 5:
		(*l)[at].Coin.Out.Script += "x"
	}
	return v
}

// beginning: a set with some coins, now and then a full one.
func (y player) beginning() *coins.Set {
	s := coins.New()
	for i := range y.Intn(8) {
		s.Put(point(i), api.Coin{Out: api.Out{Value: y.Intn(300), Script: y.lock()}, Height: y.Intn(3)})
	}
	if y.Intn(5) == 0 {
		s.Put(point(100), coin(most-s.Total()-y.one(0, 0, 100, 1000), 1))
	}
	return s
}

// seen: how many plays came to what.
type seen struct {
	codes         map[api.Errno]int
	later, within int // faults behind the first transaction, and blocks with coins that are spent where they are made
	again, state  int // coins that are in both lists, and refused reverts
}

// count what a block came to.
func (n *seen) count(l []api.Tx, u block.Undo, err error) {
	n.codes[api.Code(err)]++
	if api.Place(err) > 0 {
		n.later++
	}
	if err != nil {
		return
	}
	pays := 0
	for _, x := range l {
		pays += len(x.Outs)
	}
	if pays > len(u.Made) {
		n.within++
	}
	for _, x := range u.Spent {
		if slices.ContainsFunc(u.Made, func(y coins.Entry) bool { return y.Point == x.Point }) {
			n.again++
		}
	}
}

// game: a set, and the blocks that it may go back by, with what it was ahead of each.
type game struct {
	player
	seen
	set   *coins.Set
	ahead []*coins.Set
	undos []block.Undo
}

// byHand: what was put in by hand is no block's, so that the set can't go back any more.
func (g *game) byHand() { g.ahead, g.undos = nil, nil }

// step: one block more, which may be refused.
func (g *game) step(t *testing.T, height int) {
	l := g.block(g.set, height)
	if g.Intn(4) == 0 {
		l = g.plant(g.set, l, height)
		g.byHand()
	}
	before := g.set.Copy()
	u, err := apply(t, g.set, l, height)
	g.count(l, u, err)
	if (len(l) == 0 || !tx.Base(l[0])) && g.set.Total() > before.Total() {
		t.Errorf("P12.3: all values together were %d and are %d:%s", before.Total(), g.set.Total(), told(l))
	}
	if err == nil {
		g.ahead, g.undos = append(g.ahead, before), append(g.undos, u)
	}
	if revert(t, g.set.Copy(), g.spoil(u)) == api.ErrState {
		g.state++
	}
}

// back by the last block.
func (g *game) back(t *testing.T) {
	n := len(g.undos) - 1
	if e := revert(t, g.set, g.undos[n]); e != api.OK || !sameSet(g.set, g.ahead[n]) {
		t.Errorf("P12.3: Revert: %d, and the set is %v, and was %v", e, g.set.All(), g.ahead[n].All())
	}
	g.ahead, g.undos = g.ahead[:n], g.undos[:n]
}

// play blocks over one set, and take them back to its beginning.
func (g *game) play(t *testing.T) {
	g.set = g.beginning()
	for height := 3; height < 12; height++ {
		g.step(t, height)
		if len(g.undos) > 0 && g.Intn(4) == 0 {
			g.back(t)
		}
		if g.Intn(6) == 0 {
			g.set.Put(point(g.Intn(30)), coin(g.Intn(100), height))
			g.byHand()
		}
	}
	for len(g.undos) > 0 {
		g.back(t)
	}
}

// TestPlays: random blocks over random sets, against the sentences.
func TestPlays(t *testing.T) {
	g := &game{player: player{Rand: rand.New(rand.NewSource(12))}, seen: seen{codes: map[api.Errno]int{}}}
	for i := range 3000 {
		g.wrong = 8 + i%80
		g.byHand()
		if g.play(t); t.Failed() {
			t.Fatalf("P12.1: play %d", i)
		}
	}
	for _, e := range []api.Errno{api.OK, api.ErrForm, api.ErrTwice, api.ErrRange, api.ErrNone, api.ErrLock, api.ErrEarly, api.ErrValue} {
		if g.codes[e] < 100 {
			t.Errorf("only %d plays of %d", g.codes[e], e)
		}
	}
	if g.later < 1000 || g.within < 1000 || g.again < 100 || g.state < 1000 {
		t.Errorf("too few plays: %+v", g.seen)
	}
}

// TestAnything: P1, whatever is handed in.
func TestAnything(t *testing.T) {
	y := player{Rand: rand.New(rand.NewSource(1)), wrong: 2}
	for range 3000 {
		s := y.beginning()
		u, err := apply(t, s, y.block(s, 5), y.one(append(heights(), 5, 5, 5, 5, 5, 5)...))
		if t.Failed() {
			t.Fatalf("P1: %v", err)
		}
		for range 3 {
			u = y.spoil(u)
			revert(t, s, u)
		}
	}
}
