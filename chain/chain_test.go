package chain_test

import (
	"errors"
	"fmt"
	"slices"
	"strings"
	"testing"

	"kedge/api"
	"kedge/block"
	"kedge/chain"
	"kedge/coins"
	"kedge/ident"
	"kedge/lock"
	"kedge/tx"
)

// Written out, so that a constant of the program that were wrong would be told.
const (
	final = 4294967295       // the Sequence by which an In asks for no LockTime
	plain = 4294967293       // one by which an In neither waits nor is final
	top   = 1000000          // the greatest height
	most  = 2100000000000000 // the greatest amount
	deep  = 6                // blocks below the top that may be taken back
)

// base: the base point, written out.
var base = api.Point{ID: strings.Repeat("\x00", 32), Index: 4294967295}

// script of a lock's branches; of none a lock that tag 7 opens.
func script(l ...api.Branch) string {
	if len(l) == 0 {
		l = []api.Branch{{Tag: 7}}
	}
	s, e := lock.Put(l)
	if e != api.OK {
		panic(e)
	}
	return s
}

// signed: a witness for branch 0.
func signed(tag uint16) []string {
	w, _ := lock.Sign(0, tag)
	return w
}

func outs(values ...int) []api.Out {
	var l []api.Out
	for _, v := range values {
		l = append(l, api.Out{Value: v, Script: script()})
	}
	return l
}

// grant of a height, whose Outs tag 7 opens.
func grant(height int, values ...int) api.Tx { return tx.Grant(height, outs(values...)) }

// input by tag 7.
func input(p api.Point) api.In { return api.In{From: p, Sequence: plain, Witness: signed(7)} }

// spend one output, by tag 7.
func spend(p api.Point, values ...int) api.Tx { return join([]api.Point{p}, values...) }

// join several outputs, by tag 7.
func join(l []api.Point, values ...int) api.Tx {
	u := api.Tx{Version: 2, Outs: outs(values...)}
	for _, p := range l {
		u.Ins = append(u.Ins, input(p))
	}
	return u
}

// out of a transaction.
func out(u api.Tx, index int) api.Point {
	p, e := ident.Pays(u, index)
	if e != api.OK {
		panic(e)
	}
	return p
}

// idOf a transaction.
func idOf(u api.Tx) string { return out(u, 0).ID }

// told: all that a block has, in a text; an empty list is told alike, nil or not.
func told(l []api.Tx) string {
	var b strings.Builder
	for i, u := range l {
		fmt.Fprintf(&b, " [%d: Version %d LockTime %d", i, u.Version, u.LockTime)
		for _, in := range u.Ins {
			fmt.Fprintf(&b, " in %x %d %d %x", in.From.ID, in.From.Index, in.Sequence, in.Witness)
		}
		for _, o := range u.Outs {
			fmt.Fprintf(&b, " out %d %x", o.Value, o.Script)
		}
		b.WriteString("]")
	}
	return b.String()
}

// copied: a block in memory of its own.
func copied(l []api.Tx) []api.Tx {
	var k []api.Tx
	for _, u := range l {
		v := api.Tx{Version: u.Version, LockTime: u.LockTime}
		for _, in := range u.Ins {
			in.Witness = append([]string(nil), in.Witness...)
			v.Ins = append(v.Ins, in)
		}
		v.Outs = append(v.Outs, u.Outs...)
		k = append(k, v)
	}
	return k
}

func brief(text string) string { return text[:min(len(text), 800)] }

// had: a transaction of a block, with its id.
type had struct {
	api.Tx
	id string
}

// words: the chapter's sentences, plainly: blocks, and the greatest height that there ever was. Beside them all ids and points that were ever seen, to ask for.
type words struct {
	blocks [][]had
	top    int
	ids    map[string]int
	points map[api.Point]int
}

func newWords() *words {
	return &words{ids: map[string]int{}, points: map[api.Point]int{}}
}

// see what a block has, whether it comes into the chain or not.
func (w *words) see(l []api.Tx) {
	for _, u := range l {
		for _, in := range u.Ins {
			w.points[in.From]++
			w.ids[in.From.ID]++
		}
		if id, e := ident.ID(u); e == api.OK {
			w.ids[id]++
			for i := range u.Outs {
				w.points[api.Point{ID: id, Index: uint32(i)}]++
			}
		}
	}
}

// coins that the blocks make, one transaction behind the other.
func (w *words) coins() map[api.Point]api.Coin {
	m := map[api.Point]api.Coin{}
	for i, l := range w.blocks {
		for _, u := range l {
			for _, in := range u.Ins {
				delete(m, in.From) // of a grant: nothing
			}
			for j, o := range u.Outs {
				m[api.Point{ID: u.id, Index: uint32(j)}] = api.Coin{Out: o, Height: i + 1}
			}
		}
	}
	return m
}

// set of the coins that the blocks make.
func (w *words) set() *coins.Set {
	s := coins.New()
	for p, c := range w.coins() {
		if e := s.Put(p, c); e != api.OK {
			panic(e)
		}
	}
	return s
}

func (w *words) confirmed(id string) (int, bool) {
	for i, l := range slices.Backward(w.blocks) {
		for _, u := range l {
			if u.id == id {
				return i + 1, true
			}
		}
	}
	return 0, false
}

func (w *words) spender(p api.Point) (string, int, bool) {
	for i, l := range slices.Backward(w.blocks) {
		for _, u := range l {
			if slices.ContainsFunc(u.Ins, func(in api.In) bool { return in.From == p }) {
				return u.id, i + 1, true
			}
		}
	}
	return "", 0, false
}

func (w *words) connect(l []api.Tx) error {
	height := len(w.blocks) + 1
	if height > top {
		return api.ErrFull
	}
	if _, err := block.Apply(w.set(), l, height); err != nil {
		return err
	}
	var b []had
	for _, u := range copied(l) {
		b = append(b, had{u, idOf(u)})
	}
	w.blocks, w.top = append(w.blocks, b), max(w.top, height)
	return nil
}

func (w *words) disconnect() ([]api.Tx, api.Errno) {
	switch n := len(w.blocks); {
	case n == 0:
		return nil, api.ErrNone
	case n <= w.top-deep:
		return nil, api.ErrDeep
	default:
		var l []api.Tx
		for _, u := range w.blocks[n-1] {
			l = append(l, u.Tx)
		}
		w.blocks = w.blocks[:n-1]
		return l, api.OK
	}
}

// pair: a chain, and what the chapter's sentences say of it.
type pair struct {
	*testing.T
	c *chain.Chain
	w *words
}

func newPair(t *testing.T) pair { return pair{t, chain.New(), newWords()} }

// look at all that the chain's methods answer.
func (p pair) look() {
	p.Helper()
	if h := p.c.Height(); h != len(p.w.blocks) {
		p.Errorf("P13.2: Height: %d, not %d", h, len(p.w.blocks))
	}
	p.lookAtCoins()
	for id := range p.w.ids {
		p.wantConfirmed(id)
	}
	for q := range p.w.points {
		p.wantSpender(q)
	}
	for _, id := range []string{"", "id", base.ID, base.ID[:31], strings.Repeat("i", 32), strings.Repeat("i", 1000)} {
		p.wantConfirmed(id)
		p.wantConfirmed(id)
		p.wantSpender(api.Point{ID: id})
	}
	p.wantSpender(base)
	p.wantSpender(api.Point{ID: base.ID, Index: base.Index - 1})
}

func (p pair) lookAtCoins() {
	p.Helper()
	m, l := p.w.coins(), p.c.Coins()
	if len(l) != len(m) {
		p.Errorf("P13.2: %d coins, not %d", len(l), len(m))
	}
	for i, x := range l {
		if c, ok := m[x.Point]; !ok || c != x.Coin {
			p.Errorf("P13.2: Coins has %x %d: %v, not %v", x.Point.ID, x.Point.Index, x.Coin, c)
		}
		if i > 0 && !tx.Less(l[i-1].Point, x.Point) {
			p.Errorf("P13.2: the coin at %d isn't in order", i)
		}
	}
	for q := range p.w.points {
		want, there := m[q]
		if c, ok := p.c.Get(q); c != want || ok != there {
			p.Errorf("P13.2: Get of %x %d: %v and %t, not %v", q.ID, q.Index, c, ok, want)
		}
	}
}

func (p pair) wantConfirmed(id string) {
	p.Helper()
	height, there := p.w.confirmed(id)
	if h, ok := p.c.Confirmed(id); h != height || ok != there {
		p.Errorf("P13.2: Confirmed of %x: %d and %t, not %d", id, h, ok, height)
	}
}

func (p pair) wantSpender(q api.Point) {
	p.Helper()
	want, height, there := p.w.spender(q)
	if id, h, ok := p.c.Spender(q); id != want || h != height || ok != there {
		p.Errorf("P13.2: Spender of %x %d: %x, %d and %t, not %x, %d", q.ID, q.Index, id, h, ok, want, height)
	}
}

// connect a block: the chapter's error, and what the methods answer then.
func (p pair) connect(l ...api.Tx) error {
	p.Helper()
	before := told(l)
	p.w.see(l)
	want := p.w.connect(l)
	err := p.c.Connect(l)
	if !sameError(err, want) {
		p.Errorf("P13.1: Connect: %v, not %v:%s", err, want, brief(before))
	}
	if told(l) != before {
		p.Errorf("rule 4: Connect made %s of %s", brief(told(l)), brief(before))
	}
	p.look()
	return err
}

// add a block that can be connected.
func (p pair) add(l ...api.Tx) {
	p.Helper()
	if err := p.connect(l...); err != nil {
		p.Fatalf("P13.1: Connect: %v:%s", err, brief(told(l)))
	}
}

// disconnect: the chapter's answer, and what the methods answer then.
func (p pair) disconnect() ([]api.Tx, api.Errno) {
	p.Helper()
	want, f := p.w.disconnect()
	l, e := p.c.Disconnect()
	if told(l) != told(want) || e != f {
		p.Errorf("P13.1: Disconnect: %d and%s, not %d and%s", e, brief(told(l)), f, brief(told(want)))
	}
	p.look()
	return l, e
}

// back by so many blocks, all of which may be taken back.
func (p pair) back(n int) {
	p.Helper()
	for range n {
		if _, e := p.disconnect(); e != api.OK {
			p.Fatalf("P13.1: Disconnect: %d at %d", e, p.c.Height())
		}
	}
}

// sameError: nil, the same number, or a fault at the same place that wraps the same error, each just such.
func sameError(a, b error) bool {
	f, fault := b.(*api.Fault)
	if !fault {
		return a == b
	}
	g, fault := a.(*api.Fault)
	return fault && g.At == f.At && sameError(g.Err, f.Err) && errors.Is(a, api.Code(b))
}

// TestExample: behind seven blocks six can be disconnected, the seventh can't.
func TestExample(t *testing.T) {
	for _, l := range [][]api.Tx{nil, {}, make([]api.Tx, 0, 3)} {
		c := chain.New()
		for range 7 {
			if err := c.Connect(l); err != nil {
				t.Fatalf("P13.1: %v", err)
			}
		}
		for n := range 6 {
			if b, e := c.Disconnect(); len(b) != 0 || e != api.OK || c.Height() != 6-n {
				t.Errorf("P13.1: %d: %v, %d, %d", n, b, e, c.Height())
			}
		}
		for range 3 {
			if b, e := c.Disconnect(); len(b) != 0 || e != api.ErrDeep || c.Height() != 1 {
				t.Errorf("P13.1: the seventh: %v, %d, %d", b, e, c.Height())
			}
		}
	}
}

// TestNil: each method of a nil chain, whatever is handed in.
func TestNil(t *testing.T) {
	var c *chain.Chain
	for _, l := range [][]api.Tx{nil, {}, {{}}, {grant(1, 5)}, {spend(base, 5), {}}} {
		if err := c.Connect(l); err != error(api.ErrNil) {
			t.Errorf("P13.1: Connect of nil: %v", err)
		}
	}
	if l, e := c.Disconnect(); len(l) != 0 || e != api.ErrNil {
		t.Errorf("P13.1: Disconnect of nil: %v, %d", l, e)
	}
	wantNothing(t, c)
}

// TestNew: each method of a chain without blocks.
func TestNew(t *testing.T) {
	c := chain.New()
	if c == nil {
		t.Fatal("P13.1: New is nil")
	}
	for range 3 {
		if l, e := c.Disconnect(); len(l) != 0 || e != api.ErrNone {
			t.Errorf("P13.1: Disconnect of a new one: %v, %d", l, e)
		}
		wantNothing(t, c)
	}
}

// wantNothing: no blocks, no coins.
func wantNothing(t *testing.T, c *chain.Chain) {
	t.Helper()
	if h, l := c.Height(), c.Coins(); h != 0 || len(l) != 0 {
		t.Errorf("P13.2: the height %d, and the coins %v", h, l)
	}
	for _, id := range []string{"", "id", base.ID, idOf(grant(1, 5)), strings.Repeat("\xff", 33)} {
		if h, ok := c.Confirmed(id); h != 0 || ok {
			t.Errorf("P13.2: Confirmed of %x: %d and %t", id, h, ok)
		}
		for _, index := range []uint32{0, 1, base.Index} {
			p := api.Point{ID: id, Index: index}
			if x, ok := c.Get(p); x != (api.Coin{}) || ok {
				t.Errorf("P13.2: Get of %x %d: %v and %t", id, index, x, ok)
			}
			if by, h, ok := c.Spender(p); by != "" || h != 0 || ok {
				t.Errorf("P13.2: Spender of %x %d: %x, %d and %t", id, index, by, h, ok)
			}
		}
	}
}

// TestOrdinary: grants, and spends of them, of each other, and of what blocks ahead pay.
func TestOrdinary(t *testing.T) {
	p := newPair(t)
	g := grant(1, 500, 300)
	p.add(g)
	a := spend(out(g, 0), 200, 250)
	b := join([]api.Point{out(a, 1), out(g, 1)}, 540)
	p.add(a, b)
	p.add()
	h := grant(4, 7)
	c := join([]api.Point{out(b, 0), out(h, 0), out(a, 0)}, 700, 40)
	p.add(h, c)
	if n := p.c.Height(); n != 4 || len(p.c.Coins()) != 2 {
		t.Errorf("P13.2: the height %d, and %d coins", n, len(p.c.Coins()))
	}
	for u, height := range map[string]int{idOf(g): 1, idOf(a): 2, idOf(b): 2, idOf(h): 4, idOf(c): 4} {
		if n, ok := p.c.Confirmed(u); n != height || !ok {
			t.Errorf("P13.2: Confirmed: %d and %t, not %d", n, ok, height)
		}
	}
	p.back(4)
	wantNothing(t, p.c)
}

// TestApart: P2: two chains have nothing to do with one another.
func TestApart(t *testing.T) {
	p, q := newPair(t), newPair(t)
	g, h := grant(1, 500), grant(1, 400, 100)
	p.add(g)
	q.look()
	wantNothing(t, q.c)
	q.add(h)
	p.add(spend(out(g, 0), 400))
	q.add(spend(out(h, 1), 90))
	p.add()
	p.look()
	q.look()
	p.back(1)
	q.back(2)
	p.look()
	wantNothing(t, q.c)
	q.add(g)
	p.look()
}
