package block_test

import (
	"errors"
	"fmt"
	"math"
	"slices"
	"strings"
	"testing"

	"kedge/api"
	"kedge/block"
	"kedge/check"
	"kedge/coins"
	"kedge/ident"
	"kedge/lock"
	"kedge/tx"
)

// Written out, so that a constant of the program that were wrong would be told.
const (
	final = 4294967295       // the Sequence by which an In asks for no LockTime
	plain = 4294967293       // one by which an In neither waits nor is final
	top   = 1000000          // the greatest height
	most  = 2100000000000000 // the greatest amount
)

// base: the base point, written out.
var base = api.Point{ID: strings.Repeat("\x00", 32), Index: 4294967295}

// point: by number, each another one, that no transaction of these tests pays; three of them share an ID.
func point(n int) api.Point {
	return api.Point{ID: fmt.Sprintf("%032d", n/3), Index: uint32(n % 3)}
}

// script of a lock's branches; of none a lock that tag 7 opens.
func script(l ...api.Branch) string {
	if len(l) == 0 {
		l = []api.Branch{{Tag: 7}}
	}
	s, e := lock.Put(l)
	if e != api.OK {
		panic(e)
	}
	return s
}

// signed: a witness for branch 0.
func signed(tag uint16) []string {
	w, _ := lock.Sign(0, tag)
	return w
}

// coin that tag 7 opens.
func coin(value, height int) api.Coin {
	return api.Coin{Out: api.Out{Value: value, Script: script()}, Height: height}
}

func entry(p api.Point, c api.Coin) coins.Entry { return coins.Entry{Point: p, Coin: c} }

func outs(values ...int) []api.Out {
	var l []api.Out
	for _, v := range values {
		l = append(l, api.Out{Value: v, Script: script()})
	}
	return l
}

// input by tag 7.
func input(p api.Point) api.In { return api.In{From: p, Sequence: plain, Witness: signed(7)} }

// spend one coin, by tag 7.
func spend(p api.Point, values ...int) api.Tx {
	return api.Tx{Version: 2, Ins: []api.In{input(p)}, Outs: outs(values...)}
}

// join several coins, by tag 7.
func join(l []api.Point, values ...int) api.Tx {
	u := api.Tx{Version: 2, Outs: outs(values...)}
	for _, p := range l {
		u.Ins = append(u.Ins, input(p))
	}
	return u
}

// out of a transaction.
func out(u api.Tx, index int) api.Point {
	p, e := ident.Pays(u, index)
	if e != api.OK {
		panic(e)
	}
	return p
}

// setOf entries.
func setOf(l ...coins.Entry) *coins.Set {
	s := coins.New()
	for _, x := range l {
		if e := s.Put(x.Point, x.Coin); e != api.OK {
			panic(e)
		}
	}
	return s
}

// holding coins of these Values, of the height 1, at point(0) and so on.
func holding(values ...int) *coins.Set {
	s := coins.New()
	for i, v := range values {
		if e := s.Put(point(i), coin(v, 1)); e != api.OK {
			panic(e)
		}
	}
	return s
}

// in the order of their points.
func inOrder(l ...coins.Entry) []coins.Entry {
	slices.SortFunc(l, func(a, b coins.Entry) int {
		if a.Point.ID != b.Point.ID {
			return strings.Compare(a.Point.ID, b.Point.ID)
		}
		return int(a.Point.Index) - int(b.Point.Index)
	})
	return l
}

// told: all that a block has, in a text.
func told(l []api.Tx) string {
	var b strings.Builder
	for i, u := range l {
		fmt.Fprintf(&b, " [%d: Version %d LockTime %d", i, u.Version, u.LockTime)
		for _, in := range u.Ins {
			fmt.Fprintf(&b, " in %q %d %d %q", in.From.ID, in.From.Index, in.Sequence, in.Witness)
		}
		for _, o := range u.Outs {
			fmt.Fprintf(&b, " out %d %q", o.Value, o.Script)
		}
		b.WriteString("]")
	}
	return b.String()
}

func brief(text string) string { return text[:min(len(text), 800)] }

// answer: a code, the place of the fault (-1: none), and that of the fault of an In which it wraps (-1: none).
type answer struct {
	code   api.Errno
	at, in int
}

func good() answer { return answer{api.OK, -1, -1} }

// refused: a number alone.
func refused(code api.Errno) answer { return answer{code, -1, -1} }

// faultAt the place of a transaction.
func faultAt(at int, code api.Errno) answer { return answer{code, at, -1} }

// faultIn an In of the transaction at a place.
func faultIn(at, in int, code api.Errno) answer { return answer{code, at, in} }

// isError: is it just the error that is wanted: nil, a number, a fault, or a fault of a fault?
func isError(err error, want answer) bool {
	switch {
	case want.code == api.OK:
		return err == nil
	case want.at < 0:
		return err == error(want.code)
	}
	var f, g *api.Fault
	if !errors.As(err, &f) || !errors.Is(err, want.code) || err != error(f) || f.At != want.at || api.Code(err) != want.code || api.Place(err) != want.at {
		return false
	}
	if want.in < 0 {
		return f.Err == error(want.code)
	}
	return errors.As(f.Err, &g) && f.Err == error(g) && g.At == want.in && g.Err == error(want.code)
}

// byWords: the chapter's sentence, over a copy, one transaction behind the other; what is there ahead and behind is held together at the end.
func byWords(s *coins.Set, l []api.Tx, height int) (*coins.Set, block.Undo, answer) {
	if s == nil {
		return nil, block.Undo{}, refused(api.ErrNil)
	}
	if height < 0 || height > top {
		return s, block.Undo{}, refused(api.ErrRange)
	}
	after := s.Copy()
	for i, u := range l {
		if a := applyByWords(after, u, i, height); a.code != api.OK {
			return s, block.Undo{}, a
		}
	}
	return after, block.Undo{Spent: lacking(s, after), Made: lacking(after, s)}, good()
}

func applyByWords(s *coins.Set, u api.Tx, at, height int) answer {
	if tx.Base(u) {
		if e := tx.Check(u); e != api.OK {
			return faultAt(at, e)
		}
		if at > 0 || u.LockTime != uint32(height) {
			return faultAt(at, api.ErrForm)
		}
	} else {
		if _, err := check.Fee(s, u, height); err != nil {
			var f *api.Fault
			if errors.As(err, &f) {
				return faultIn(at, f.At, api.Code(err))
			}
			return faultAt(at, api.Code(err))
		}
		for _, in := range u.Ins {
			s.Take(in.From)
		}
	}
	for i, o := range u.Outs {
		if e := s.Put(out(u, i), api.Coin{Out: o, Height: height}); e != api.OK {
			return faultAt(at, e)
		}
	}
	return good()
}

// lacking: the coins of one set that another one hasn't, or not the same.
func lacking(one, other *coins.Set) []coins.Entry {
	var l []coins.Entry
	for _, x := range one.All() {
		if c, ok := other.Get(x.Point); !ok || c != x.Coin {
			l = append(l, x)
		}
	}
	return l
}

// sameSet: has a set just the coins of another one?
func sameSet(a, b *coins.Set) bool {
	return slices.Equal(a.All(), b.All()) && a.Len() == b.Len() && a.Total() == b.Total()
}

// apply a block, and want what the chapter's sentence says of it, and of the set.
func apply(t *testing.T, s *coins.Set, l []api.Tx, height int) (block.Undo, error) {
	t.Helper()
	ahead, before := s.Copy(), told(l)
	after, want, a := byWords(ahead, l, height)
	u, err := block.Apply(s, l, height)
	if !isError(err, a) {
		t.Errorf("P12.1: Apply in %d: %v, not %v:%s", height, err, a, brief(before))
	}
	if !slices.Equal(u.Spent, want.Spent) || !slices.Equal(u.Made, want.Made) {
		t.Errorf("P12.1: Apply in %d: Spent %v and Made %v, not %v and %v:%s", height, u.Spent, u.Made, want.Spent, want.Made, brief(before))
	}
	if s != nil && !sameSet(s, after) {
		t.Errorf("P12.1: Apply in %d: %v is made of %v, not %v, with %v:%s", height, s.All(), ahead.All(), after.All(), err, brief(before))
	}
	if told(l) != before {
		t.Errorf("rule 4: Apply made %s of %s", brief(told(l)), brief(before))
	}
	return u, err
}

// wantRefused: that error, and the set as it was.
func wantRefused(t *testing.T, s *coins.Set, l []api.Tx, height int, want answer) {
	t.Helper()
	ahead := s.Copy()
	u, err := apply(t, s, l, height)
	if !isError(err, want) {
		t.Errorf("P12.1: Apply in %d: %v, not %v:%s", height, err, want, brief(told(l)))
	}
	if len(u.Spent) > 0 || len(u.Made) > 0 {
		t.Errorf("rule 2: %v and %v beside %v", u.Spent, u.Made, err)
	}
	if s != nil && !sameSet(s, ahead) {
		t.Errorf("P12.1: with %v the set is %v, and was %v", err, s.All(), ahead.All())
	}
}

// wantApplied: these Spent and Made, and then it is reverted to just what there was (P12.3), and applied once more.
func wantApplied(t *testing.T, s *coins.Set, l []api.Tx, height int, spent, made []coins.Entry) block.Undo {
	t.Helper()
	ahead := s.Copy()
	u, err := apply(t, s, l, height)
	if err != nil || !slices.Equal(u.Spent, spent) || !slices.Equal(u.Made, made) {
		t.Errorf("P12.1: Apply in %d: %v, Spent %v and Made %v, not %v and %v:%s", height, err, u.Spent, u.Made, spent, made, brief(told(l)))
	}
	if e := block.Revert(s, u); e != api.OK || !sameSet(s, ahead) {
		t.Errorf("P12.3: Revert: %d, and the set is %v, and was %v", e, s.All(), ahead.All())
	}
	again, err := apply(t, s, l, height)
	if err != nil || !slices.Equal(u.Spent, again.Spent) || !slices.Equal(u.Made, again.Made) {
		t.Errorf("P12.1: again %v, Spent %v and Made %v, not %v and %v", err, again.Spent, again.Made, u.Spent, u.Made)
	}
	return again
}

func TestExample(t *testing.T) {
	for _, height := range []int{0, 1, 5, top} {
		g := tx.Grant(height, []api.Out{{Value: 5}})
		s := coins.New()
		wantApplied(t, s, []api.Tx{g}, height, nil, []coins.Entry{entry(out(g, 0), api.Coin{Out: api.Out{Value: 5}, Height: height})})
		if s.Len() != 1 || s.Total() != 5 {
			t.Errorf("P12.1: %d coins of %d", s.Len(), s.Total())
		}
	}
}

// TestOrdinary: a grant, and spends of it, of each other and of what there was.
func TestOrdinary(t *testing.T) {
	s := holding(100, 200, 300)
	g := tx.Grant(9, outs(1000, 50))
	a := join([]api.Point{point(0), point(2)}, 150, 240) // fee 10
	b := join([]api.Point{out(g, 0), out(a, 1)}, 1200)   // fee 40
	c := spend(out(b, 0), 400, 400, 400)
	spent := []coins.Entry{entry(point(0), coin(100, 1)), entry(point(2), coin(300, 1))}
	made := inOrder(entry(out(g, 1), coin(50, 9)), entry(out(a, 0), coin(150, 9)), entry(out(c, 0), coin(400, 9)), entry(out(c, 1), coin(400, 9)), entry(out(c, 2), coin(400, 9)))
	wantApplied(t, s, []api.Tx{g, a, b, c}, 9, spent, made)
	if s.Total() != 600+1050-50 || s.Len() != 6 {
		t.Errorf("P12.1: %d coins of %d", s.Len(), s.Total())
	}
}

func TestNilSet(t *testing.T) {
	for _, height := range heights() {
		for _, l := range [][]api.Tx{nil, {}, {tx.Grant(height, outs(5))}, {spend(point(0), 5)}, {{}, {}}} {
			wantRefused(t, nil, l, height, refused(api.ErrNil))
		}
	}
}

// heights at their limits, and beyond them: some of them would do in fewer bits.
func heights() []int {
	return []int{math.MinInt, math.MinInt + 1, -1 << 32, -2, -1, 0, 1, 2, 999999, top, top + 1, 1 << 31, 1 << 32, 1<<32 + 5, math.MaxInt - 1, math.MaxInt}
}

func TestHeights(t *testing.T) {
	for _, height := range heights() {
		s := setOf(entry(point(0), coin(100, 0)))
		g := tx.Grant(height, outs(5))
		u := spend(point(0), 60, 30)
		u.Ins[0].Sequence = final // so that it may be in a block of the height 0
		l := []api.Tx{g, u}
		if height < 0 || height > top {
			wantRefused(t, s, l, height, refused(api.ErrRange))
			wantRefused(t, s, nil, height, refused(api.ErrRange))
			wantRefused(t, s, []api.Tx{{}}, height, refused(api.ErrRange))
			continue
		}
		made := inOrder(entry(out(g, 0), coin(5, height)), entry(out(u, 0), coin(60, height)), entry(out(u, 1), coin(30, height)))
		wantApplied(t, s, l, height, []coins.Entry{entry(point(0), coin(100, 0))}, made)
	}
}

func TestEmptyBlock(t *testing.T) {
	for _, s := range []*coins.Set{coins.New(), holding(1, 2, 3), holding(most)} {
		for _, height := range []int{0, 1, top} {
			for _, l := range [][]api.Tx{nil, {}, make([]api.Tx, 0, 5)} {
				wantApplied(t, s, l, height, nil, nil)
			}
		}
	}
}

// TestApart: P2: what is done to a set is done to none that was made apart, nor to its copies.
func TestApart(t *testing.T) {
	s, other := holding(100, 200), holding(100, 200)
	first := s.Copy()
	l := []api.Tx{spend(point(0), 90)}
	u, _ := apply(t, s, l, 9)
	if !sameSet(first, other) || sameSet(first, s) {
		t.Errorf("P2: %v, %v", first.All(), other.All())
	}
	if e := block.Revert(first, u); e != api.ErrState {
		t.Errorf("P12.2: Revert of a set to which nothing was applied: %d", e)
	}
	wantApplied(t, other, l, 9, u.Spent, u.Made)
}
