package chain_test

import (
	"math/rand"
	"slices"
	"testing"

	"kedge/api"
	"kedge/coins"
	"kedge/tx"
)

// player makes blocks by chance, from a fixed beginning; of so many parts one is wrong.
type player struct {
	pair
	*rand.Rand
	wrong int
	gone  [][]api.Tx // blocks that were taken back
	seen  *seen
}

// seen: how many steps came to what.
type seen struct {
	codes  map[api.Errno]int
	later  int // faults behind the first transaction
	again  int // transactions that came back behind a block that was taken back
	higher int // blocks behind the top
	within int // outputs that are spent in the block that makes them
}

func (y *player) bad() bool { return y.Intn(y.wrong) == 0 }

// lock: most often one that tag 7 opens at once.
func (y *player) lock() string {
	switch y.Intn(12) {
	case 0:
		return script(api.Branch{})
	case 1:
		return script(api.Branch{Tag: 7, Delay: uint16(y.Intn(3))}, api.Branch{Tag: 8})
	case 2:
		return script(api.Branch{Tag: 7, Height: uint32(y.Intn(12))})
	case 3:
		return "no lock's"
	}
	return script()
}

// split a value into up to three Outs; sometimes less than all of it, sometimes more.
func (y *player) split(value int) []api.Out {
	if !y.bad() {
		value -= y.Intn(min(value, 20) + 1)
	}
	if y.bad() {
		value += y.Intn(20)
	}
	var l []api.Out
	for range y.Intn(3) {
		part := y.Intn(value + 1)
		l, value = append(l, api.Out{Value: part, Script: y.lock()}), value-part
	}
	return append(l, api.Out{Value: value, Script: y.lock()})
}

// tx of some of the coins that there are, which are taken from these.
func (y *player) tx(have *[]coins.Entry, height int) api.Tx {
	u := api.Tx{Version: uint32(1 + y.Intn(2)), LockTime: uint32(y.Intn(height))}
	sum := 0
	for range 1 + y.Intn(3) {
		if len(*have) == 0 {
			break
		}
		at := y.Intn(len(*have))
		x := (*have)[at]
		in := input(x.Point)
		if y.Intn(6) == 0 {
			in.Sequence = uint32(y.Intn(3))
		}
		if y.bad() {
			in.Witness = signed(8)
		}
		if y.bad() {
			in.From = base
		}
		u.Ins, sum = append(u.Ins, in), sum+x.Coin.Out.Value
		if !y.bad() {
			*have = slices.Delete(*have, at, at+1)
		}
	}
	u.Outs = y.split(sum)
	return u
}

// block behind the last one: each transaction may spend what there is, and what those ahead of it pay.
func (y *player) block() []api.Tx {
	height := y.c.Height() + 1
	have := usable(y.c.Coins())
	var l []api.Tx
	if y.Intn(3) > 0 {
		g := tx.Grant(height, y.split(y.Intn(500)))
		if y.bad() {
			g.LockTime += uint32(1 - 2*y.Intn(2))
		}
		if y.bad() {
			g.Outs[0].Value = most - y.Intn(2000)
		}
		l = append(l, g)
	}
	for range y.Intn(5) {
		if n := len(l); n > 0 && y.Intn(3) > 0 {
			have = append(have, usable(paid(l[n-1], height))...)
		}
		if len(have) > 0 || y.bad() {
			l = append(l, y.tx(&have, height))
		}
	}
	if y.bad() && len(l) > 1 {
		a, b := y.Intn(len(l)), y.Intn(len(l))
		l[a], l[b] = l[b], l[a]
	}
	return l
}

// onceMore: one of the last blocks that were taken back, or what of it is no grant, or only a part of that.
func (y *player) onceMore() []api.Tx {
	at := max(0, len(y.gone)-1-y.Intn(2))
	l := copied(y.gone[at])
	y.gone = slices.Delete(y.gone, at, at+1)
	if len(l) > 0 && y.Intn(2) == 0 && tx.Base(l[0]) {
		l = l[1:]
	}
	if len(l) > 0 && y.Intn(3) == 0 {
		l = l[:y.Intn(len(l))]
	}
	return l
}

// paid: what a transaction pays; nothing, if it has no id.
func paid(u api.Tx, height int) []coins.Entry {
	var l []coins.Entry
	if tx.Check(u) != api.OK {
		return nil
	}
	for i, o := range u.Outs {
		l = append(l, coins.Entry{Point: out(u, i), Coin: api.Coin{Out: o, Height: height}})
	}
	return l
}

// usable: those whose scripts are locks'.
func usable(l []coins.Entry) []coins.Entry {
	return slices.DeleteFunc(slices.Clone(l), func(x coins.Entry) bool { return x.Coin.Out.Script == "no lock's" })
}

// step: a block more, which may be refused.
func (y *player) step() {
	l := y.block()
	again := len(y.gone) > 0 && y.Intn(3) == 0
	if again {
		l = y.onceMore()
	}
	was := y.w.top
	err := y.connect(l...)
	y.seen.codes[api.Code(err)]++
	if api.Place(err) > 0 {
		y.seen.later++
	}
	if err != nil {
		return
	}
	if again {
		y.seen.again += len(l)
	}
	if y.w.top > was {
		y.seen.higher++
	}
	for _, u := range l {
		for _, in := range u.Ins {
			if h, ok := y.c.Confirmed(in.From.ID); ok && h == y.c.Height() {
				y.seen.within++
			}
		}
	}
}

// takeBack one block, if there is one that may be taken back.
func (y *player) takeBack() {
	l, e := y.disconnect()
	y.seen.codes[e]++
	if e == api.OK {
		y.gone = append(y.gone, l)
	}
}

// thereAndBack: P13.3: what is connected and disconnected again leaves the chain as it was, by another chain of the same blocks.
func (y *player) thereAndBack() {
	all, height := y.c.Coins(), y.c.Height()
	l := y.block()
	if y.connect(l...) != nil {
		return
	}
	if back, e := y.disconnect(); e != api.OK || told(back) != told(l) {
		y.Errorf("P13.3: %d,%s, not%s", e, told(back), told(l))
	}
	if !slices.Equal(y.c.Coins(), all) || y.c.Height() != height {
		y.Errorf("P13.3: at %d there are %v, not at %d %v", y.c.Height(), y.c.Coins(), height, all)
	}
}

// play: blocks come and go.
func (y *player) play() {
	down := 0
	for range 40 {
		switch n := y.Intn(16); {
		case n == 0:
			down = y.Intn(12)
		case n == 1:
			y.thereAndBack()
		case n < 4:
			y.takeBack()
		default:
			y.step()
		}
		for ; down > 0; down-- {
			y.takeBack()
		}
	}
}

// TestPlays: random blocks, connected and taken back, against the sentences.
func TestPlays(t *testing.T) {
	s := &seen{codes: map[api.Errno]int{}}
	r := rand.New(rand.NewSource(13))
	for i := range 500 {
		y := &player{pair: newPair(t), Rand: r, wrong: 10 + i%90, seen: s}
		if y.play(); t.Failed() {
			t.Fatalf("P13.1: play %d", i)
		}
	}
	for _, e := range []api.Errno{api.OK, api.ErrForm, api.ErrRange, api.ErrNone, api.ErrLock, api.ErrEarly, api.ErrValue, api.ErrDeep} {
		if s.codes[e] < 30 {
			t.Errorf("only %d plays of %d", s.codes[e], e)
		}
	}
	if s.later < 300 || s.again < 300 || s.higher < 1000 || s.within < 300 {
		t.Errorf("too few plays: %+v", *s)
	}
}
