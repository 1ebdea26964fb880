package chain_test

import (
	"errors"
	"fmt"
	"strings"
	"testing"

	"kedge/api"
	"kedge/check"
	"kedge/lock"
)

// answer: a code, the place of the fault (-1: none), and that of the fault of an In which it wraps (-1: none).
type answer struct {
	code   api.Errno
	at, in int
}

// isError: is it just the error that is wanted: a number, a fault, or a fault of a fault?
func isError(err error, want answer) bool {
	if want.at < 0 {
		return err == error(want.code)
	}
	var f, g *api.Fault
	if !errors.As(err, &f) || !errors.Is(err, want.code) || err != error(f) || f.At != want.at || api.Code(err) != want.code || api.Place(err) != want.at {
		return false
	}
	if want.in < 0 {
		return f.Err == error(want.code)
	}
	return errors.As(f.Err, &g) && f.Err == error(g) && g.At == want.in && g.Err == error(want.code)
}

// refuse a block: that error, and the chain is as it was.
func (p pair) refuse(name string, want answer, l ...api.Tx) {
	p.Helper()
	if err := p.connect(l...); !isError(err, want) {
		p.Errorf("P13.1: Connect of %s: %v, not %v:%s", name, err, want, brief(told(l)))
	}
}

// filled: a chain of three blocks, and the transactions of it; tag 7 opens both Outs of a, and both of b wait.
func filled(t *testing.T) (p pair, g, a, b api.Tx) {
	p = newPair(t)
	g = grant(1, 1000, 600)
	p.add(g)
	a = spend(out(g, 0), 300, 700)
	p.add(grant(2, 50), a)
	b = spend(out(g, 1), 200, 400)
	b.Outs[0].Script = script(api.Branch{Tag: 7, Delay: 2})
	b.Outs[1].Script = script(api.Branch{Tag: 7, Height: 9})
	p.add(b)
	return p, g, a, b
}

// changed: a transaction, with a change.
func changed(u api.Tx, change func(u *api.Tx)) api.Tx {
	v := copied([]api.Tx{u})[0]
	change(&v)
	return v
}

// TestGrantRefused: layer 5's errors of a grant, and a grant that isn't the first one, or of another height.
func TestGrantRefused(t *testing.T) {
	p, _, a, _ := filled(t)
	for _, x := range []struct {
		name   string
		code   api.Errno
		change func(u *api.Tx)
	}{
		{"no Outs", api.ErrCount, func(u *api.Tx) { u.Outs = nil }},
		{"257 Outs", api.ErrCount, func(u *api.Tx) { u.Outs = make([]api.Out, 257) }},
		{"a Witness of five", api.ErrCount, func(u *api.Tx) { u.Ins[0].Witness = make([]string, 5) }},
		{"a long Script", api.ErrLong, func(u *api.Tx) { u.Outs[0].Script = strings.Repeat("s", 41) }},
		{"a long text", api.ErrLong, func(u *api.Tx) { u.Ins[0].Witness = []string{strings.Repeat("w", 81)} }},
		{"no amount", api.ErrRange, func(u *api.Tx) { u.Outs[0].Value = -1 }},
		{"too much", api.ErrRange, func(u *api.Tx) { u.Outs[0].Value = most + 1 }},
		{"too much together", api.ErrRange, func(u *api.Tx) { u.Outs[0].Value = most }},
		{"too much with what there is", api.ErrRange, func(u *api.Tx) { u.Outs[0].Value = most - 1650 - 5 + 1 }},
		{"the last height", api.ErrForm, func(u *api.Tx) { u.LockTime = 3 }},
		{"the height behind", api.ErrForm, func(u *api.Tx) { u.LockTime = 5 }},
		{"no height", api.ErrForm, func(u *api.Tx) { u.LockTime = 0 }},
	} {
		g := changed(grant(4, 10, 5), x.change)
		p.refuse(x.name, answer{x.code, 0, -1}, g)
		p.refuse(x.name, answer{x.code, 0, -1}, g, spend(out(a, 0), 1))
	}
	p.refuse("a second grant", answer{api.ErrForm, 1, -1}, grant(4, 10), grant(4, 11))
	p.refuse("the same grant twice", answer{api.ErrForm, 1, -1}, grant(4, 10), grant(4, 10))
	p.refuse("a late grant", answer{api.ErrForm, 2, -1}, spend(out(a, 0), 1), spend(out(a, 1), 1), grant(4, 10))
	p.add(grant(4, most-1650-5, 5))
	p.refuse("a satoshi more", answer{api.ErrRange, 0, -1}, grant(5, 0, 1))
	p.add(grant(5, 0))
}

// TestRefusedByItself: layer 5's errors of what is no grant, at the first, a middle and the last place.
func TestRefusedByItself(t *testing.T) {
	p, _, a, b := filled(t)
	for _, x := range []struct {
		name   string
		code   api.Errno
		change func(u *api.Tx)
	}{
		{"no Ins", api.ErrCount, func(u *api.Tx) { u.Ins = nil }},
		{"257 Ins", api.ErrCount, func(u *api.Tx) { u.Ins = make([]api.In, 257) }},
		{"no Outs", api.ErrCount, func(u *api.Tx) { u.Outs = nil }},
		{"a Witness of five", api.ErrCount, func(u *api.Tx) { u.Ins[0].Witness = make([]string, 5) }},
		{"a long Script", api.ErrLong, func(u *api.Tx) { u.Outs[0].Script = strings.Repeat("s", 41) }},
		{"a short ID", api.ErrForm, func(u *api.Tx) { u.Ins[0].From.ID = u.Ins[0].From.ID[:31] }},
		{"the base point among others", api.ErrForm, func(u *api.Tx) { u.Ins = append(u.Ins, input(base)) }},
		{"an output twice", api.ErrTwice, func(u *api.Tx) { u.Ins = append(u.Ins, u.Ins[0]) }},
		{"no amount", api.ErrRange, func(u *api.Tx) { u.Outs[0].Value = -1 }},
		{"too much together", api.ErrRange, func(u *api.Tx) { u.Outs[0].Value = most }},
		{"more than it has", api.ErrValue, func(u *api.Tx) { u.Outs[0].Value += 1 }},
	} {
		p.wantEverywhere(x.name, x.code, -1, changed(spend(out(a, 1), 600, 100), x.change))
	}
	p.wantEverywhere("nothing at all", api.ErrCount, -1, api.Tx{})
	p.wantEverywhere("early outputs", api.ErrEarly, 0, join([]api.Point{out(b, 0), out(b, 1)}, 600))
}

// wantEverywhere: a block is refused for a transaction, wherever it stands among others that are right.
func (p pair) wantEverywhere(name string, code api.Errno, in int, bad api.Tx) {
	p.Helper()
	g := grant(4, 10, 20)
	one := spend(out(g, 0), 9)
	two := spend(out(one, 0), 8, 1)
	p.refuse(name, answer{code, 0, in}, bad)
	p.refuse(name, answer{code, 0, in}, bad, one)
	p.refuse(name, answer{code, 1, in}, g, bad)
	p.refuse(name, answer{code, 1, in}, g, bad, one, bad)
	p.refuse(name, answer{code, 2, in}, g, one, bad, two)
	p.refuse(name, answer{code, 3, in}, g, one, two, bad)
}

// TestInsRefused: a fault of an In, at its place among others that are right.
func TestInsRefused(t *testing.T) {
	p, g, a, b := filled(t)
	for _, x := range []struct {
		name string
		code api.Errno
		in   api.In
	}{
		{"no such transaction", api.ErrNone, input(api.Point{ID: strings.Repeat("i", 32)})},
		{"no such Out", api.ErrNone, input(api.Point{ID: idOf(a), Index: 2})},
		{"a spent output", api.ErrNone, input(out(g, 0))},
		{"another tag", api.ErrLock, api.In{From: out(b, 0), Sequence: 2, Witness: signed(8)}},
		{"no Witness", api.ErrLock, api.In{From: out(b, 0), Sequence: 2}},
		{"no such branch", api.ErrLock, api.In{From: out(b, 0), Sequence: 2, Witness: branch(1)}},
		{"less than the Delay", api.ErrEarly, api.In{From: out(b, 0), Sequence: 1, Witness: signed(7)}},
		{"the Delay, and not ripe", api.ErrEarly, api.In{From: out(b, 0), Sequence: 2, Witness: signed(7)}},
		{"less than the Height", api.ErrEarly, input(out(b, 1))},
	} {
		for at := range 3 {
			bad := join([]api.Point{out(a, 0), out(a, 1)}, 5)
			bad.Ins = append(bad.Ins[:at:at], append([]api.In{x.in}, bad.Ins[at:]...)...)
			p.wantEverywhere(fmt.Sprintf("%s at %d", x.name, at), x.code, at, bad)
		}
	}
	u := spend(out(b, 1), 1)
	u.LockTime = 9
	p.refuse("a LockTime ahead", answer{api.ErrEarly, 0, 0}, u)
	v := spend(out(a, 0), 1)
	p.refuse("an output that the block has spent", answer{api.ErrNone, 1, 0}, v, spend(out(a, 0), 2))
	p.refuse("the same one twice", answer{api.ErrNone, 1, 0}, v, v)
	w := spend(out(v, 0), 1)
	p.refuse("a child ahead of its parent", answer{api.ErrNone, 0, 0}, w, v)
	p.refuse("what is in the chain", answer{api.ErrNone, 0, 0}, a)
	p.add(v, w)
}

// branch: a witness of tag 7 for another branch.
func branch(n int) []string {
	w, _ := lock.Sign(n, 7)
	return w
}

// TestRipens: what comes too early for one block comes into a later one: each block's height is one greater than that of the one ahead.
func TestRipens(t *testing.T) {
	p, _, _, b := filled(t)
	waits := spend(out(b, 0), 200)
	waits.Ins[0].Sequence = 2
	late := spend(out(b, 1), 400)
	late.LockTime = 9
	p.refuse("one block behind", answer{api.ErrEarly, 0, 0}, waits)
	p.add()
	p.add(waits) // its output is in block 3
	for p.c.Height() < 9 {
		p.refuse("its height", answer{api.ErrEarly, 0, 0}, late)
		p.add()
	}
	p.add(late)
	if n := p.c.Height(); n != 10 {
		t.Errorf("P13.2: the height is %d", n)
	}
	for height := 11; height < 20; height++ {
		p.refuse("a grant of the last block", answer{api.ErrForm, 0, -1}, grant(height-1, 1))
		p.refuse("a grant of the block behind", answer{api.ErrForm, 0, -1}, grant(height+1, 1))
		p.add(grant(height, 1))
	}
}

// TestRefusedLeavesTheTop: what is refused counts neither as a block that there was, nor as one that was taken back.
func TestRefusedLeavesTheTop(t *testing.T) {
	p := newPair(t)
	for height := 1; height <= deep; height++ {
		p.add(grant(height, 5))
	}
	for range 10 {
		p.refuse("nothing at all", answer{api.ErrCount, 1, -1}, grant(7, 5), api.Tx{})
	}
	p.back(deep)
	p.disconnect()
	for height := 1; height <= deep+1; height++ {
		p.add(grant(height, 6))
	}
	for range 10 {
		p.refuse("nothing at all", answer{api.ErrCount, 1, -1}, grant(8, 5), api.Tx{})
	}
	p.back(deep)
	for range 10 {
		if _, e := p.disconnect(); e != api.ErrDeep {
			t.Errorf("P13.1: Disconnect: %d", e)
		}
	}
	p.add(grant(2, 9))
	p.back(1)
}

// TestIsAView: P13.2: layer 11 looks coins up in a chain.
func TestIsAView(t *testing.T) {
	p, _, a, b := filled(t)
	p.add()
	var v check.View = p.c
	waits := join([]api.Point{out(a, 1), out(b, 0)}, 850)
	waits.Ins[1].Sequence = 2
	for _, x := range []struct {
		u      api.Tx
		height int
		fee    int
	}{
		{spend(out(a, 0), 250, 30), 3, 20}, {spend(out(a, 0), 300), 2, 0}, {waits, 5, 50}, {spend(out(grant(2, 50), 0), 20), 2, 30},
	} {
		if fee, err := check.Fee(v, x.u, x.height); fee != x.fee || err != nil {
			t.Errorf("P13.2: Fee over a chain: %d, %v, not %d", fee, err, x.fee)
		}
	}
	for _, x := range []struct {
		u      api.Tx
		height int
		want   answer
	}{
		{spend(out(a, 0), 301), 3, answer{api.ErrValue, -1, -1}}, {waits, 4, answer{api.ErrEarly, 1, -1}}, {spend(a.Ins[0].From, 1), 9, answer{api.ErrNone, 0, -1}},
	} {
		if fee, err := check.Fee(v, x.u, x.height); fee != 0 || !isError(err, x.want) {
			t.Errorf("P13.2: Fee over a chain: %d, %v, not %v", fee, err, x.want)
		}
	}
	p.back(3)
	if fee, err := check.Fee(v, spend(a.Ins[0].From, 900), 2); fee != 100 || err != nil {
		t.Errorf("P13.2: Fee of what is not spent any more: %d, %v", fee, err)
	}
	p.c = nil
	if fee, err := check.Fee(p.c, a, 3); fee != 0 || !isError(err, answer{api.ErrNone, 0, -1}) {
		t.Errorf("P13.2: Fee over a nil chain: %d, %v", fee, err)
	}
}
