package chain_test

import (
	"testing"

	"kedge/api"
	"kedge/chain"
	"kedge/tx"
)

// marks: a chain whose blocks are told by their grants' Values, and these Values.
type marks struct {
	*testing.T
	c    *chain.Chain
	l    []int
	next int
	top  int
}

func (m *marks) connect() {
	m.next++
	if err := m.c.Connect([]api.Tx{grant(len(m.l)+1, m.next)}); err != nil {
		m.Fatalf("P13.1: Connect: %v", err)
	}
	m.l = append(m.l, m.next)
	m.top = max(m.top, len(m.l))
}

func (m *marks) disconnect() {
	b, e := m.c.Disconnect()
	n := len(m.l)
	want := api.OK
	switch {
	case n == 0:
		want = api.ErrNone
	case n <= m.top-deep:
		want = api.ErrDeep
	}
	if e != want || m.c.Height() != n && e != api.OK {
		m.Fatalf("P13.1: Disconnect at %d, the top at %d: %d, not %d", n, m.top, e, want)
	}
	if e != api.OK {
		if len(b) > 0 {
			m.Fatalf("rule 2: beside %d%s", e, told(b))
		}
		return
	}
	if len(b) != 1 || len(b[0].Outs) != 1 || b[0].Outs[0].Value != m.l[n-1] {
		m.Fatalf("P13.1: Disconnect at %d, not %d:%s", n, m.l[n-1], told(b))
	}
	m.l = m.l[:n-1]
}

// check the height, and which grant is the last one.
func (m *marks) check() {
	n := len(m.l)
	if h := m.c.Height(); h != n {
		m.Fatalf("P13.2: Height: %d, not %d", h, n)
	}
	want, height := "", 0
	if n > 0 {
		want, height = idOf(grant(n, m.l[n-1])), n
	}
	if id, h, ok := m.c.Spender(base); id != want || h != height || ok != (n > 0) {
		m.Fatalf("P13.2: Spender of the base point: %x, %d and %t, not %x, %d", id, h, ok, want, height)
	}
	if h, ok := m.c.Confirmed(want); h != height || ok != (n > 0) {
		m.Fatalf("P13.2: Confirmed: %d and %t, not %d", h, ok, height)
	}
}

// TestEachWay: behind some blocks, each way in which ten are connected or taken back.
func TestEachWay(t *testing.T) {
	for begin := range 10 {
		for way := range 1 << 10 {
			m := &marks{T: t, c: chain.New()}
			for range begin {
				m.connect()
			}
			for bit := range 10 {
				if way>>bit&1 == 0 {
					m.disconnect()
				} else {
					m.connect()
				}
			}
			m.check()
		}
	}
}

// TestDown: from each height as many blocks as may be, and one more; then up again, so that the top is the greatest height that there ever was.
func TestDown(t *testing.T) {
	for high := range 20 {
		for up := range 10 {
			m := &marks{T: t, c: chain.New()}
			for range high {
				m.connect()
			}
			for range 2 {
				for range deep + 1 {
					m.disconnect()
					m.check()
				}
				if n := len(m.l); n != max(0, m.top-deep) {
					t.Fatalf("P13.3: from %d down to %d", m.top, n)
				}
				for range up {
					m.connect()
					m.check()
				}
			}
		}
	}
}

// TestTopStays: blocks connected in between don't let more be taken back.
func TestTopStays(t *testing.T) {
	p := newPair(t)
	for height := 1; height <= 10; height++ {
		p.add(grant(height, 100+height))
	}
	p.back(3)
	for range 5 {
		p.add(grant(8, 5))
		p.add()
		p.back(2)
	}
	p.back(3)
	for range 5 { // its height is 4, its top 10
		if l, e := p.disconnect(); len(l) > 0 || e != api.ErrDeep || p.c.Height() != 4 {
			t.Errorf("P13.1: %d,%s", e, told(l))
		}
		p.add(spend(out(grant(3, 103), 0), 100), spend(out(grant(4, 104), 0), 100))
		p.add()
		p.back(2)
	}
	for height := 5; height <= 11; height++ {
		p.add(grant(height, 200+height))
	}
	p.back(deep)
	if _, e := p.disconnect(); e != api.ErrDeep || p.c.Height() != 5 {
		t.Errorf("P13.1: %d", e)
	}
}

// TestNoneAheadOfDeep: a chain that can go back to its beginning has no block then.
func TestNoneAheadOfDeep(t *testing.T) {
	for high := range deep + 1 {
		p := newPair(t)
		for height := 1; height <= high; height++ {
			p.add(grant(height, 5))
		}
		p.back(high)
		for range 3 {
			if l, e := p.disconnect(); len(l) > 0 || e != api.ErrNone {
				t.Errorf("P13.1: behind %d: %d,%s", high, e, told(l))
			}
		}
		p.add(grant(1, 7))
		p.back(1)
	}
}

// TestTakenBack: what comes back is what was connected, in its order; and connected again it does the same.
func TestTakenBack(t *testing.T) {
	p, _, a, b := filled(t)
	g := grant(4, 30, 40)
	one := join([]api.Point{out(g, 1), out(a, 0)}, 300, 20)
	two := join([]api.Point{out(one, 1), out(a, 1)}, 700)
	two.LockTime, two.Version = 3, 1
	three := spend(out(g, 0))
	three.Ins[0].Sequence = final
	three.Outs = []api.Out{{Value: 1, Script: "no lock's"}, {Value: 0}}
	early := spend(out(b, 0), 200)
	early.Ins[0].Sequence = 2
	block := []api.Tx{g, three, one, two}
	p.add(block...)
	p.add(early)
	p.add()
	ahead := p.c.Coins()
	for range 4 {
		for n, want := range [][]api.Tx{nil, {early}, block} {
			if l, e := p.disconnect(); told(l) != told(want) || e != api.OK {
				t.Errorf("P13.1: block %d: %d and%s, not%s", 6-n, e, told(l), told(want))
			}
		}
		for _, l := range [][]api.Tx{block, {early}, nil} {
			p.add(l...)
		}
		if l := p.c.Coins(); len(l) != len(ahead) {
			t.Errorf("P13.3: %v, not %v", l, ahead)
		}
	}
}

// TestFull: up to the greatest height, and no further.
func TestFull(t *testing.T) {
	c := chain.New()
	g := grant(1, 5)
	for height := 1; height < top; height++ {
		l := []api.Tx(nil)
		if height == 1 {
			l = []api.Tx{g}
		}
		if err := c.Connect(l); err != nil {
			t.Fatalf("P13.1: block %d: %v", height, err)
		}
	}
	u := spend(out(g, 0), 4)
	last := []api.Tx{grant(top, 7), u}
	for range 3 {
		if err := c.Connect(last); err != nil || c.Height() != top {
			t.Errorf("P13.1: %v, %d", err, c.Height())
		}
		for _, l := range [][]api.Tx{nil, {}, {grant(top+1, 7)}, {{}}, {spend(out(u, 0), 3)}} {
			if err := c.Connect(l); err != error(api.ErrFull) || c.Height() != top {
				t.Errorf("P13.1: %v, %d", err, c.Height())
			}
		}
		if l, e := c.Disconnect(); told(l) != told(last) || e != api.OK || c.Height() != top-1 {
			t.Errorf("P13.1: %d, %d,%s", e, c.Height(), told(l))
		}
	}
	for range deep - 1 {
		if l, e := c.Disconnect(); len(l) > 0 || e != api.OK {
			t.Errorf("P13.1: %d at %d", e, c.Height())
		}
	}
	if _, e := c.Disconnect(); e != api.ErrDeep || c.Height() != top-deep {
		t.Errorf("P13.1: %d at %d", e, c.Height())
	}
	if x, ok := c.Get(out(g, 0)); x.Out.Value != 5 || x.Height != 1 || !ok || len(c.Coins()) != 1 {
		t.Errorf("P13.2: %v and %t", x, ok)
	}
}

// TestNotKept: what was handed in may be changed: it does nothing to the chain; and what lies behind it isn't looked at.
func TestNotKept(t *testing.T) {
	p := newPair(t)
	g := grant(1, 500, 300)
	g.Ins[0].Witness = []string{"any", "text"}
	a := spend(out(g, 0), 100, 200, 150)
	whole := copied([]api.Tx{g, a, {}, grant(1, 9)})
	for i := range whole[:2] {
		u := &whole[i]
		u.Ins = append(u.Ins, api.In{From: base, Witness: make([]string, 9)})[:1]
		u.Ins[0].Witness = append(u.Ins[0].Witness, "x", "y", "z")[:len(u.Ins[0].Witness)]
		u.Outs = append(u.Outs, api.Out{Value: -1})[:len(u.Outs)]
	}
	before := told(whole)
	p.add(whole[:2]...)
	if told(whole) != before || whole[0].Outs[:3][2].Value != -1 || whole[1].Ins[:2][1].From != base || whole[0].Ins[0].Witness[:5][4] != "z" {
		t.Errorf("rule 4: Connect made%s of%s", told(whole), before)
	}
	spoil(whole)
	p.look()
	if l, e := p.disconnect(); told(l) != told([]api.Tx{g, a}) || e != api.OK {
		t.Errorf("rule 4: %d,%s", e, told(l))
	}
}

// spoil all that is in a block.
func spoil(l []api.Tx) {
	for i := range l {
		u := &l[i]
		for j := range u.Ins {
			for k := range u.Ins[j].Witness {
				u.Ins[j].Witness[k] = "spoilt"
			}
			u.Ins[j] = api.In{From: api.Point{ID: "spoilt"}, Sequence: 9}
		}
		for j := range u.Outs {
			u.Outs[j] = api.Out{Value: -9, Script: "spoilt"}
		}
		l[i] = api.Tx{Version: 9}
	}
}

// TestNewMemory: what is answered may be changed, too, and no list in it shares memory with another one.
func TestNewMemory(t *testing.T) {
	p, _, a, b := filled(t)
	one, two := join([]api.Point{out(a, 0), out(a, 1)}, 500, 400), grant(4, 1, 2, 3)
	for range 3 {
		p.add(two, one)
		first, e := p.c.Disconnect()
		if e != api.OK {
			t.Fatalf("P13.1: %d", e)
		}
		grow(t, first)
		kept := copied(first)
		p.w.disconnect()
		p.look()
		p.add(first...)
		spoil(first)
		p.look()
		second, _ := p.disconnect()
		if told(second) != told(kept) {
			t.Errorf("rule 4:%s, not%s", told(second), told(kept))
		}
		spoil(second)
		p.look()
		all := p.c.Coins()
		for i := range all {
			all[i].Coin.Out.Value, all[i].Point.Index = -1, 9
		}
		p.look()
	}
	p.back(1)
	if _, ok := p.c.Get(b.Ins[0].From); !ok {
		t.Error("P13.3: what b spent isn't there")
	}
}

// grow each list of an answer: nothing else of it may change.
func grow(t *testing.T, l []api.Tx) {
	t.Helper()
	before := told(l)
	for _, u := range l {
		for _, in := range u.Ins {
			_ = append(in.Witness, "more", "and more")
		}
		_ = append(u.Ins, api.In{Sequence: 5}, api.In{Sequence: 6})
		_ = append(u.Outs, api.Out{Value: 5}, api.Out{Value: 6})
	}
	_ = append(l, api.Tx{}, api.Tx{})
	if told(l) != before {
		t.Errorf("rule 4: the answer's lists share memory:%s, not%s", told(l), before)
	}
}

// TestGrantSpends: a grant spends the base point: the last one is told, also behind blocks that have none.
func TestGrantSpends(t *testing.T) {
	p := newPair(t)
	p.add()
	want := func(name, id string, height int) {
		t.Helper()
		if by, h, ok := p.c.Spender(base); by != id || h != height || ok != (height > 0) {
			t.Errorf("P13.2: %s: Spender of the base point: %x, %d and %t", name, by, h, ok)
		}
	}
	want("no grant", "", 0)
	g, h := grant(2, 5), grant(4, 6)
	p.add(g)
	want("one", idOf(g), 2)
	p.add(spend(out(g, 0), 4))
	want("a block behind it", idOf(g), 2)
	p.add(h)
	p.add()
	want("two", idOf(h), 4)
	p.add(grant(6, 7))
	p.back(1)
	want("the last one taken back", idOf(h), 4)
	p.back(2)
	want("the last two taken back", idOf(g), 2)
	other := tx.Grant(4, []api.Out{{Value: 9}})
	p.add(other)
	want("another one", idOf(other), 4)
	p.back(3)
	want("none any more", "", 0)
}

// TestMadeAnew: an output that is spent, taken back with what paid it, made anew and spent again, by the same transaction or another one, in another block.
func TestMadeAnew(t *testing.T) {
	p := newPair(t)
	g := grant(1, 500, 50)
	p.add(g)
	a := spend(out(g, 0), 400)
	b, c := spend(out(a, 0), 300), join([]api.Point{out(g, 1), out(a, 0)}, 440)
	q := out(a, 0)
	want := func(u api.Tx, height int) {
		t.Helper()
		if id, h, ok := p.c.Spender(q); id != idOf(u) || h != height || !ok {
			t.Errorf("P13.2: Spender: %x, %d and %t", id, h, ok)
		}
		if h, ok := p.c.Confirmed(idOf(u)); h != height || !ok {
			t.Errorf("P13.2: Confirmed: %d and %t", h, ok)
		}
	}
	p.add(a)
	p.add(b)
	want(b, 3)
	p.back(2)
	p.add(a, c)
	want(c, 2)
	if _, ok := p.c.Confirmed(idOf(b)); ok {
		t.Error("P13.2: b was taken back")
	}
	p.back(1)
	p.add()
	p.add(a)
	p.add()
	p.add(b)
	want(b, 5)
	p.back(5)
	p.add(g, a, b)
	want(b, 1)
	if _, _, ok := p.c.Spender(out(b, 0)); ok {
		t.Error("P13.2: nothing spends b's Out")
	}
}

// TestOtherLengths: an id that has another length than 32 bytes is none.
func TestOtherLengths(t *testing.T) {
	p, g, a, _ := filled(t)
	for _, u := range []api.Tx{g, a} {
		id := idOf(u)
		for _, other := range []string{"", id[:1], id[:31], id[1:], id + "\x00", "\x00" + id, id + id} {
			if h, ok := p.c.Confirmed(other); h != 0 || ok {
				t.Errorf("P13.2: Confirmed of %d bytes: %d and %t", len(other), h, ok)
			}
			for index := range uint32(2) {
				q := api.Point{ID: other, Index: index}
				if by, h, ok := p.c.Spender(q); by != "" || h != 0 || ok {
					t.Errorf("P13.2: Spender by %d bytes: %x, %d and %t", len(other), by, h, ok)
				}
				if x, ok := p.c.Get(q); x != (api.Coin{}) || ok {
					t.Errorf("P13.2: Get by %d bytes: %v and %t", len(other), x, ok)
				}
			}
		}
	}
}
