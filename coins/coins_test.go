package coins_test

import (
	"fmt"
	"strings"
	"testing"

	"kedge/api"
	"kedge/coins"
)

// id of 32 bytes, all the same.
func id(letter string) string { return strings.Repeat(letter, 32) }

// point: by number, each another one; three of them share an ID.
func point(n int) api.Point {
	return api.Point{ID: fmt.Sprintf("%032d", n/3), Index: uint32(n % 3)}
}

// coin of a Value, with something in every part.
func coin(value int) api.Coin {
	return api.Coin{Out: api.Out{Value: value, Script: "script"}, Height: 7}
}

// setOf coins of these Values, by the points from 0 on.
func setOf(t *testing.T, values ...int) *coins.Set {
	t.Helper()
	s := coins.New()
	for i, v := range values {
		wantPut(t, s, point(i), coin(v), api.OK)
	}
	return s
}

// entriesOf what setOf puts, written out.
func entriesOf(values ...int) []coins.Entry {
	var l []coins.Entry
	for i, v := range values {
		l = append(l, coins.Entry{Point: point(i), Coin: coin(v)})
	}
	return l
}

// told: a list of coins in a text, as short as it may be without two lists being told alike.
func told(l []coins.Entry) string {
	var b strings.Builder
	for _, x := range l {
		fmt.Fprintf(&b, "[%q %d: %d %q %d]", x.Point.ID, x.Point.Index, x.Coin.Out.Value, x.Coin.Out.Script, x.Coin.Height)
	}
	return b.String()
}

func brief(text string) string { return text[:min(len(text), 300)] }

// wantPut: the answer of a Put, and that it leaves all as it was if it is refused.
func wantPut(t *testing.T, s *coins.Set, p api.Point, c api.Coin, want api.Errno) {
	t.Helper()
	before, total := told(s.All()), s.Total()
	e := s.Put(p, c)
	if e != want {
		t.Errorf("P10.1: Put of %.40q %d, %d at %d, is %d, not %d", p.ID, p.Index, c.Out.Value, c.Height, e, want)
	}
	if e == api.OK {
		if got, ok := s.Get(p); got != c || !ok {
			t.Errorf("P10.1: behind Put of %.40q %d, Get is %v, %v", p.ID, p.Index, got, ok)
		}
	} else if after := told(s.All()); after != before || s.Total() != total {
		t.Errorf("rule 3: a refused Put (%d) made %s of %s", e, brief(after), brief(before))
	}
}

// wantTake: the answer of a Take, and that it leaves all as it was if it is refused.
func wantTake(t *testing.T, s *coins.Set, p api.Point, want api.Coin, code api.Errno) {
	t.Helper()
	before, total := told(s.All()), s.Total()
	c, e := s.Take(p)
	if c != want || e != code {
		t.Errorf("P10.1: Take of %.40q %d is %v, %d, not %v, %d", p.ID, p.Index, c, e, want, code)
	}
	if e == api.OK {
		if got, ok := s.Get(p); got != (api.Coin{}) || ok {
			t.Errorf("P10.1: behind Take of %.40q %d, Get is %v, %v", p.ID, p.Index, got, ok)
		}
	} else if after := told(s.All()); after != before || s.Total() != total {
		t.Errorf("rule 3: a refused Take (%d) made %s of %s", e, brief(after), brief(before))
	}
}

func wantGet(t *testing.T, s *coins.Set, p api.Point, want api.Coin, ok bool) {
	t.Helper()
	if c, there := s.Get(p); c != want || there != ok {
		t.Errorf("P10.2: Get of %.40q %d is %v, %v, not %v, %v", p.ID, p.Index, c, there, want, ok)
	}
}

// wantAll: just these, in this order, with their number, their Values together and each by its point.
func wantAll(t *testing.T, s *coins.Set, want []coins.Entry) {
	t.Helper()
	if got := told(s.All()); got != told(want) {
		t.Errorf("P10.2: All is %s, not %s", brief(got), brief(told(want)))
	}
	total := 0
	for _, x := range want {
		total += x.Coin.Out.Value
		wantGet(t, s, x.Point, x.Coin, true)
	}
	if s.Len() != len(want) || s.Total() != total {
		t.Errorf("P10.2: Len is %d, Total %d, not %d, %d", s.Len(), s.Total(), len(want), total)
	}
}

func TestExample(t *testing.T) {
	s := coins.New()
	wantPut(t, s, point(0), coin(5), api.OK)
	wantTake(t, s, point(0), coin(5), api.OK)
	wantAll(t, s, nil)
}

func TestNew(t *testing.T) {
	s := coins.New()
	wantAll(t, s, nil)
	for _, p := range []api.Point{point(0), {}, {ID: id("\x00")}, {ID: id("\x00"), Index: 1<<32 - 1}} {
		wantGet(t, s, p, api.Coin{}, false)
		wantTake(t, s, p, api.Coin{}, api.ErrNone)
	}
	wantAll(t, s, nil)
}

// TestApart: P2, of two sets that were made apart.
func TestApart(t *testing.T) {
	s, u := coins.New(), coins.New()
	wantPut(t, s, point(0), coin(5), api.OK)
	wantPut(t, s, point(1), coin(6), api.OK)
	wantAll(t, u, nil)
	wantPut(t, u, point(0), coin(api.MaxMoney), api.OK)
	wantTake(t, u, point(1), api.Coin{}, api.ErrNone)
	wantAll(t, s, entriesOf(5, 6))
	wantAll(t, u, entriesOf(api.MaxMoney))
	wantAll(t, coins.New(), nil)
}

// TestNil: P1 and P10.2, of every method of nil, whatever it is handed.
func TestNil(t *testing.T) {
	var none *coins.Set
	for _, p := range []api.Point{point(0), {}, {ID: id("a")[:31]}, {ID: strings.Repeat("a", 70000), Index: 1}} {
		for _, c := range []api.Coin{coin(5), {}, coin(-1), coin(api.MaxMoney + 1), {Height: -1}, {Height: api.MaxHeight + 1}} {
			if e := none.Put(p, c); e != api.ErrNil {
				t.Errorf("P10.1: Put into nil is %d", e)
			}
		}
		if c, e := none.Take(p); c != (api.Coin{}) || e != api.ErrNil {
			t.Errorf("P10.1: Take out of nil is %v, %d", c, e)
		}
		if c, ok := none.Get(p); c != (api.Coin{}) || ok {
			t.Errorf("P10.2: Get of nil is %v, %v", c, ok)
		}
	}
	if none.Len() != 0 || none.Total() != 0 || len(none.All()) != 0 || none.Copy() != nil {
		t.Errorf("P10.2: of nil: %d, %d, %v, %v", none.Len(), none.Total(), none.All(), none.Copy())
	}
}
