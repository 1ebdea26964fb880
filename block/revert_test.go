package block_test

import (
	"fmt"
	"math"
	"slices"
	"strings"
	"testing"

	"kedge/api"
	"kedge/block"
	"kedge/coins"
	"kedge/tx"
)

// revertByWords: the chapter's sentence, over a copy.
func revertByWords(s *coins.Set, u block.Undo) (*coins.Set, api.Errno) {
	if s == nil {
		return nil, api.ErrNil
	}
	for _, x := range u.Made {
		if c, ok := s.Get(x.Point); !ok || c.Height != x.Coin.Height || c.Out.Value != x.Coin.Out.Value || c.Out.Script != x.Coin.Out.Script {
			return s, api.ErrState
		}
	}
	after := s.Copy()
	for _, x := range u.Made {
		after.Take(x.Point)
	}
	for _, x := range u.Spent {
		if after.Put(x.Point, x.Coin) != api.OK {
			return s, api.ErrState
		}
	}
	return after, api.OK
}

// revert, and want what the chapter's sentence says.
func revert(t *testing.T, s *coins.Set, u block.Undo) api.Errno {
	t.Helper()
	ahead, kept := s.Copy(), block.Undo{Spent: slices.Clone(u.Spent), Made: slices.Clone(u.Made)}
	after, want := revertByWords(ahead, u)
	e := block.Revert(s, u)
	if e != want {
		t.Errorf("P12.2: Revert: %d, not %d: Spent %v and Made %v of %v", e, want, u.Spent, u.Made, ahead.All())
	}
	if s != nil && !sameSet(s, after) {
		t.Errorf("P12.2: Revert: %d, and the set is %v, not %v: Spent %v and Made %v of %v", e, s.All(), after.All(), u.Spent, u.Made, ahead.All())
	}
	if !slices.Equal(u.Spent, kept.Spent) || !slices.Equal(u.Made, kept.Made) {
		t.Errorf("rule 4: Revert made %v of %v", u, kept)
	}
	return e
}

// wantState: ErrState, and the set just as it was.
func wantState(t *testing.T, s *coins.Set, u block.Undo) {
	t.Helper()
	ahead := s.Copy()
	if e := revert(t, s, u); e != api.ErrState || !sameSet(s, ahead) {
		t.Errorf("P12.2: Revert: %d, not ErrState, and the set is %v, and was %v", e, s.All(), ahead.All())
	}
}

// applied: a set behind a block that spent three coins and made four, and what it changed.
func applied(t *testing.T) (*coins.Set, block.Undo) {
	t.Helper()
	s := holding(100, 200, 300, 400)
	l := []api.Tx{tx.Grant(9, outs(50)), join([]api.Point{point(0), point(1)}, 250), spend(point(3), 100, 290)}
	u, err := apply(t, s, l, 9)
	if err != nil || len(u.Spent) != 3 || len(u.Made) != 4 {
		t.Fatalf("P12.1: %v: %v", err, u)
	}
	return s, u
}

func TestRevertNil(t *testing.T) {
	_, u := applied(t)
	bad := block.Undo{Spent: []coins.Entry{{}}, Made: []coins.Entry{{}}}
	for _, x := range []block.Undo{{}, u, {Spent: u.Spent}, {Made: u.Made}, bad} {
		if e := revert(t, nil, x); e != api.ErrNil {
			t.Errorf("P12.2: Revert of nil: %d", e)
		}
	}
}

func TestRevertNothing(t *testing.T) {
	for _, s := range []*coins.Set{coins.New(), holding(1, 2), holding(most)} {
		for _, u := range []block.Undo{{}, {Spent: []coins.Entry{}, Made: []coins.Entry{}}} {
			ahead := s.Copy()
			if e := revert(t, s, u); e != api.OK || !sameSet(s, ahead) {
				t.Errorf("P12.2: %d, %v", e, s.All())
			}
		}
	}
}

// TestRevertTwice: what was made isn't there any more, or, if none was, what was spent stands there.
func TestRevertTwice(t *testing.T) {
	s, u := applied(t)
	if e := revert(t, s, u); e != api.OK || !sameSet(s, holding(100, 200, 300, 400)) {
		t.Errorf("P12.3: %d, %v", e, s.All())
	}
	wantState(t, s, u)
	wantState(t, s, block.Undo{Spent: u.Spent})
	wantState(t, s, block.Undo{Made: u.Made})
	// A block that only made: twice.
	s = coins.New()
	v, _ := apply(t, s, []api.Tx{tx.Grant(9, outs(50))}, 9)
	if e := revert(t, s, v); e != api.OK || s.Len() != 0 {
		t.Errorf("P12.3: %d, %v", e, s.All())
	}
	wantState(t, s, v)
}

// TestMadeIsWrong: a coin of Made, whichever it is, that is missing, or another one.
func TestMadeIsWrong(t *testing.T) {
	for at := range 4 {
		for name, other := range map[string]func(*api.Coin){
			"Value":  func(c *api.Coin) { c.Out.Value-- },
			"Script": func(c *api.Coin) { c.Out.Script += "\x00" },
			"none":   func(c *api.Coin) { c.Out.Script = "" },
			"higher": func(c *api.Coin) { c.Height++ },
			"lower":  func(c *api.Coin) { c.Height-- },
			"all":    func(c *api.Coin) { *c = api.Coin{} },
		} {
			t.Run(fmt.Sprintf("%s of %d", name, at), func(t *testing.T) {
				s, u := applied(t)
				c, _ := s.Take(u.Made[at].Point)
				wantState(t, s, u) // missing
				other(&c)
				s.Put(u.Made[at].Point, c)
				wantState(t, s, u) // in the set it is another one
				s, u = applied(t)
				other(&u.Made[at].Coin)
				wantState(t, s, u) // in Made it is another one
			})
		}
		s, u := applied(t)
		for _, p := range []api.Point{{}, point(90), {ID: u.Made[at].Point.ID, Index: 7}, {ID: u.Made[at].Point.ID[:31], Index: u.Made[at].Point.Index}, u.Spent[0].Point} {
			v := block.Undo{Spent: u.Spent, Made: slices.Clone(u.Made)}
			v.Made[at].Point = p
			wantState(t, s, v)
		}
		if e := revert(t, s, u); e != api.OK {
			t.Errorf("P12.2: %d", e)
		}
	}
}

// TestSpentIsWrong: a coin of Spent, whichever it is, that can't be put in.
func TestSpentIsWrong(t *testing.T) {
	for at := range 3 {
		// It stands there by now, as it was or another one.
		for _, value := range []int{0, 1, 100, 200, 400} {
			for _, height := range []int{1, 2} {
				s, u := applied(t)
				s.Put(u.Spent[at].Point, coin(value, height))
				wantState(t, s, u)
			}
		}
		// It is none, by layer 10's words.
		for _, x := range []struct {
			id     string
			value  int
			height int
		}{
			{"", 1, 1}, {strings.Repeat("i", 31), 1, 1}, {strings.Repeat("i", 33), 1, 1},
			{strings.Repeat("i", 32), -1, 1}, {strings.Repeat("i", 32), most + 1, 1}, {strings.Repeat("i", 32), math.MinInt, 1}, {strings.Repeat("i", 32), math.MaxInt, 1},
			{strings.Repeat("i", 32), 1, -1}, {strings.Repeat("i", 32), 1, top + 1}, {strings.Repeat("i", 32), 1, math.MinInt}, {strings.Repeat("i", 32), 1, math.MaxInt},
		} {
			s, u := applied(t)
			u.Spent[at] = entry(api.Point{ID: x.id}, coin(x.value, x.height))
			wantState(t, s, u)
		}
		// It is there twice.
		s, u := applied(t)
		u.Spent = slices.Insert(u.Spent, at, u.Spent[2-at])
		wantState(t, s, u)
		u.Spent[at].Coin.Out.Value++
		wantState(t, s, u)
	}
}

// TestRevertNoRoom: there is just room for Spent without Made, or a satoshi less.
func TestRevertNoRoom(t *testing.T) {
	for _, more := range []int{0, 1} {
		s, u := applied(t) // besides what the block spent and made, point(2) has 300
		for _, x := range u.Made {
			s.Take(x.Point)
		}
		s.Put(point(90), coin(most-300-700+more, 1))
		for _, x := range u.Made {
			if e := s.Put(x.Point, x.Coin); e != api.OK {
				t.Fatal(e)
			}
		}
		if more > 0 {
			wantState(t, s, u)
		} else if e := revert(t, s, u); e != api.OK || s.Total() != most {
			t.Errorf("P12.2: %d, %d", e, s.Total())
		}
	}
}

// TestHandMade: an undo that no block made: what the sentence says of it.
func TestHandMade(t *testing.T) {
	a, b, c := entry(point(0), coin(100, 1)), entry(point(1), coin(200, 1)), entry(point(5), coin(most-200, 3))
	for i, x := range []struct {
		u    block.Undo
		want []coins.Entry // nil: ErrState
	}{
		{block.Undo{Made: []coins.Entry{a}}, []coins.Entry{b}},
		{block.Undo{Made: []coins.Entry{b, a}}, []coins.Entry{}},
		{block.Undo{Spent: []coins.Entry{entry(point(5), coin(7, 3))}}, []coins.Entry{a, b, entry(point(5), coin(7, 3))}},
		{block.Undo{Spent: []coins.Entry{c}}, nil},
		{block.Undo{Spent: []coins.Entry{c}, Made: []coins.Entry{a}}, []coins.Entry{b, c}},
		{block.Undo{Spent: []coins.Entry{entry(c.Point, coin(most-199, 3))}, Made: []coins.Entry{a}}, nil},
		{block.Undo{Spent: []coins.Entry{entry(c.Point, coin(most-199, 3))}, Made: []coins.Entry{b}}, []coins.Entry{a, entry(c.Point, coin(most-199, 3))}},
		{block.Undo{Spent: []coins.Entry{a}}, nil},
		{block.Undo{Spent: []coins.Entry{a}, Made: []coins.Entry{a}}, []coins.Entry{a, b}},
		{block.Undo{Spent: []coins.Entry{entry(a.Point, coin(5, 0))}, Made: []coins.Entry{a}}, []coins.Entry{entry(a.Point, coin(5, 0)), b}},
		{block.Undo{Spent: []coins.Entry{a, c}, Made: []coins.Entry{a}}, nil},
		{block.Undo{Spent: []coins.Entry{c, a}, Made: []coins.Entry{a}}, nil},
		{block.Undo{Spent: []coins.Entry{b, a}, Made: []coins.Entry{a}}, nil},
		{block.Undo{Spent: []coins.Entry{entry(point(5), coin(7, 3)), entry(point(4), coin(8, 3))}, Made: []coins.Entry{b}}, []coins.Entry{a, entry(point(4), coin(8, 3)), entry(point(5), coin(7, 3))}},
		// One that Made tells twice is in the set as it is told there, both times; and it is out then.
		{block.Undo{Made: []coins.Entry{a, a}}, []coins.Entry{b}},
		{block.Undo{Spent: []coins.Entry{a}, Made: []coins.Entry{a, b, a}}, []coins.Entry{a}},
		{block.Undo{Spent: []coins.Entry{a, a}, Made: []coins.Entry{a, a}}, nil},
		{block.Undo{Made: []coins.Entry{a, entry(a.Point, coin(101, 1))}}, nil},
		// No coin at all isn't one of 0.
		{block.Undo{Made: []coins.Entry{entry(point(9), api.Coin{})}}, nil},
		{block.Undo{Made: []coins.Entry{{}}}, nil},
	} {
		s := setOf(a, b)
		if x.want == nil {
			wantState(t, s, x.u)
			continue
		}
		if e := revert(t, s, x.u); e != api.OK || !slices.Equal(s.All(), x.want) {
			t.Errorf("P12.2: %d: %d, %v, not %v", i, e, s.All(), x.want)
		}
	}
}

// TestBlocksBehindOneAnother: applied one behind the other and reverted from the last one on, each time to just what there was; another one than the last can't be.
func TestBlocksBehindOneAnother(t *testing.T) {
	s := holding(1000, 2000)
	var ahead []*coins.Set
	var undos []block.Undo
	last := point(0)
	value := 1000
	for height := 2; height < 40; height++ {
		ahead = append(ahead, s.Copy())
		g := tx.Grant(height, outs(height, 5))
		a := join([]api.Point{last, out(g, 1)}, value, 3) // fee 2
		b := spend(out(a, 0), value-1, 1)                 // no fee
		u, err := apply(t, s, []api.Tx{g, a, b}, height)
		if err != nil {
			t.Fatalf("P12.1: %v", err)
		}
		undos = append(undos, u)
		last, value = out(b, 0), value-1
	}
	for n, u := range slices.Backward(undos) {
		for m, v := range undos {
			if m != n {
				wantState(t, s, v)
			}
		}
		if e := revert(t, s, u); e != api.OK || !sameSet(s, ahead[n]) {
			t.Fatalf("P12.3: block %d: %d, %v, not %v", n, e, s.All(), ahead[n].All())
		}
	}
}
