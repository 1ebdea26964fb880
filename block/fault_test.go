package block_test

import (
	"errors"
	"fmt"
	"math"
	"slices"
	"strings"
	"testing"

	"kedge/api"
	"kedge/block"
	"kedge/coins"
	"kedge/tx"
)

// scene: coins that there are, and a block of the height 30.
type scene struct {
	coins []coins.Entry
	block []api.Tx
}

// row of five transactions of three Ins each: of two coins (places 3 n and 3 n + 1), and of an Out of the one ahead (the first one of a third coin), with a fee of 10.
func row() scene {
	var s scene
	for n := range 15 {
		s.coins = append(s.coins, entry(point(n), coin(100, 10)))
	}
	ahead, have := point(2), 100
	for n := range 5 {
		u := join([]api.Point{point(3 * n), point(3*n + 1), ahead}, have+90, 100)
		s.block = append(s.block, u)
		ahead, have = out(u, 0), have+90
	}
	return s
}

// hangOn: the Ins of the later ones From the Outs as they are by now.
func (s *scene) hangOn(at int) {
	for n := at + 1; n < len(s.block); n++ {
		s.block[n].Ins[2].From = out(s.block[n-1], 0)
	}
}

// flaw of the transaction at a place of a row, that wants an answer.
type flaw struct {
	name string
	want answer
	make func(*scene)
}

// checkFlaws: what layer 5's Check tells of.
func checkFlaws(at int) []flaw {
	u := func(s *scene) *api.Tx { return &s.block[at] }
	fault := func(code api.Errno) answer { return faultAt(at, code) }
	return []flaw{
		{"no Ins", fault(api.ErrCount), func(s *scene) { u(s).Ins = nil }},
		{"no Outs", fault(api.ErrCount), func(s *scene) { u(s).Outs = nil }},
		{"257 Ins", fault(api.ErrCount), func(s *scene) {
			for i := len(u(s).Ins); i < 257; i++ {
				u(s).Ins = append(u(s).Ins, input(point(100+i)))
			}
		}},
		{"257 Outs", fault(api.ErrCount), func(s *scene) { u(s).Outs = append(u(s).Outs, make([]api.Out, 255)...) }},
		{"5 texts", fault(api.ErrCount), func(s *scene) { u(s).Ins[1].Witness = make([]string, 5) }},
		{"a long Script", fault(api.ErrLong), func(s *scene) { u(s).Outs[1].Script = strings.Repeat("s", 41) }},
		{"a long text", fault(api.ErrLong), func(s *scene) { u(s).Ins[1].Witness = []string{strings.Repeat("w", 81)} }},
		{"an ID of 31 bytes", fault(api.ErrForm), func(s *scene) { u(s).Ins[1].From.ID = strings.Repeat("i", 31) }},
		{"the base point among others", fault(api.ErrForm), func(s *scene) { u(s).Ins[1].From = base }},
		{"an output twice", fault(api.ErrTwice), func(s *scene) { u(s).Ins[1].From = u(s).Ins[0].From }},
		{"a Value below 0", fault(api.ErrRange), func(s *scene) { u(s).Outs[1].Value = -1 }},
		{"a Value above MaxMoney", fault(api.ErrRange), func(s *scene) { u(s).Outs[1].Value = most + 1 }},
		{"Outs of too much", fault(api.ErrRange), func(s *scene) { u(s).Outs[1].Value = most }},
		{"coins of too little", fault(api.ErrValue), func(s *scene) { u(s).Outs[1].Value = 111 }},
	}
}

// inFlaws: what may be wrong in an In of the transaction at a place.
func inFlaws(at, in int) []flaw {
	i := func(s *scene) *api.In { return &s.block[at].Ins[in] }
	fault := func(code api.Errno) answer { return faultIn(at, in, code) }
	l := []flaw{
		{"no coin", fault(api.ErrNone), func(s *scene) { i(s).From = point(90) }},
		{"no such Out", fault(api.ErrNone), func(s *scene) { i(s).From = out(s.block[0], 0); i(s).From.Index = 2 }},
		{"no Witness", fault(api.ErrLock), func(s *scene) { i(s).Witness = nil }},
		{"another tag", fault(api.ErrLock), func(s *scene) { i(s).Witness = signed(8) }},
		{"no such branch", fault(api.ErrLock), func(s *scene) { i(s).Witness = []string{"\x01\x07\x00"} }},
		{"a wait that is too long", fault(api.ErrEarly), func(s *scene) { i(s).Sequence = 21 }},
	}
	if in < 2 || at == 0 { // a coin of the set
		c := func(s *scene) *api.Coin { return &s.coins[3*at+in].Coin }
		l = append(l,
			flaw{"no lock", fault(api.ErrLock), func(s *scene) { c(s).Out.Script = "" }},
			flaw{"less than the Delay", fault(api.ErrEarly), func(s *scene) {
				c(s).Out.Script, i(s).Sequence = script(api.Branch{Tag: 7, Delay: 5}), 4
			}},
			flaw{"below the Height", fault(api.ErrEarly), func(s *scene) { c(s).Out.Script = script(api.Branch{Tag: 7, Height: 1}) }},
			flaw{"a coin of a later block", fault(api.ErrEarly), func(s *scene) { c(s).Height = 31 }})
	} else { // an Out of this block: it is of the height 30
		l = append(l, flaw{"a wait of one block", fault(api.ErrEarly), func(s *scene) { i(s).Sequence = 1 }})
	}
	for n := range l {
		l[n].name += fmt.Sprintf(" (In %d)", in)
	}
	return l
}

func flaws(at int) []flaw {
	return slices.Concat(checkFlaws(at), inFlaws(at, 0), inFlaws(at, 1), inFlaws(at, 2))
}

// TestRow: a row without a flaw is applied.
func TestRow(t *testing.T) {
	s := row()
	set := setOf(s.coins...)
	if u, err := apply(t, set, s.block, 30); err != nil || len(u.Spent) != 11 || len(u.Made) != 6 || set.Total() != 1500-50 {
		t.Errorf("P12.1: %v, %d Spent, %d Made, %d", err, len(u.Spent), len(u.Made), set.Total())
	}
}

// TestFlaws: each error of layer 11's Fee, at the first, the middle and the last place.
func TestFlaws(t *testing.T) {
	for _, at := range []int{0, 2, 4} {
		for _, f := range flaws(at) {
			t.Run(fmt.Sprintf("%s at %d", f.name, at), func(t *testing.T) {
				s := row()
				f.make(&s)
				wantRefused(t, setOf(s.coins...), s.block, 30, f.want)
				// Whatever stands behind it isn't asked for.
				s.block = append(s.block[:at+1:at+1], api.Tx{}, tx.Grant(9, nil))
				wantRefused(t, setOf(s.coins...), s.block, 30, f.want)
			})
		}
	}
}

// TestTwoFlaws: of two transactions that are wrong the first one is told, whatever is wrong.
func TestTwoFlaws(t *testing.T) {
	for _, f := range flaws(1) {
		for _, g := range flaws(3) {
			s := row()
			g.make(&s)
			f.make(&s)
			wantRefused(t, setOf(s.coins...), s.block, 30, f.want)
		}
	}
}

// TestWrongHeights: ErrRange goes ahead of all faults.
func TestWrongHeights(t *testing.T) {
	for _, f := range flaws(0) {
		s := row()
		f.make(&s)
		for _, height := range []int{-1, top + 1, math.MinInt, math.MaxInt} {
			wantRefused(t, setOf(s.coins...), s.block, height, refused(api.ErrRange))
		}
	}
}

// TestOrderInBlock: an Out of one ahead may be spent, one of one behind can't.
func TestOrderInBlock(t *testing.T) {
	a := spend(point(0), 60, 30)
	b := spend(out(a, 0), 50)
	c := spend(out(b, 0), 40)
	d := join([]api.Point{out(a, 1), out(c, 0)}, 70)
	spent, made := []coins.Entry{entry(point(0), coin(100, 1))}, []coins.Entry{entry(out(d, 0), coin(70, 9))}
	wantApplied(t, holding(100), []api.Tx{a, b, c, d}, 9, spent, made)
	for _, x := range []struct {
		l      []api.Tx
		at, in int
	}{
		{[]api.Tx{b, a}, 0, 0}, {[]api.Tx{b, a, c}, 0, 0}, {[]api.Tx{a, c, b}, 1, 0}, {[]api.Tx{a, c, b, d}, 1, 0}, {[]api.Tx{a, b, d, c}, 2, 1},
		{[]api.Tx{d, a, b, c}, 0, 0}, {[]api.Tx{a, d}, 1, 1}, {[]api.Tx{b}, 0, 0}, {[]api.Tx{c, b, a}, 0, 0},
	} {
		wantRefused(t, holding(100), x.l, 9, faultIn(x.at, x.in, api.ErrNone))
	}
}

// TestSpentTwice: one coin, or one Out of the block, by two transactions; and one transaction twice.
func TestSpentTwice(t *testing.T) {
	a, b := spend(point(0), 90), spend(point(0), 80)
	c := spend(point(1), 150)
	for _, x := range []struct {
		l      []api.Tx
		at, in int
	}{
		{[]api.Tx{a, b}, 1, 0}, {[]api.Tx{b, a}, 1, 0}, {[]api.Tx{a, c, b}, 2, 0}, {[]api.Tx{a, a}, 1, 0}, {[]api.Tx{a, c, c}, 2, 0}, {[]api.Tx{a, join([]api.Point{point(1), point(0)}, 10)}, 1, 1},
		{[]api.Tx{a, spend(out(a, 0), 5), spend(out(a, 0), 6)}, 2, 0}, {[]api.Tx{a, spend(out(a, 0), 5), c, join([]api.Point{out(c, 0), out(a, 0)}, 6)}, 3, 1},
	} {
		wantRefused(t, holding(100, 200), x.l, 9, faultIn(x.at, x.in, api.ErrNone))
	}
}

// TestStandsThere: an Out that stands in the set already, the first one and a later one, of transactions at each place; what it spent is there again.
func TestStandsThere(t *testing.T) {
	for at := range 5 {
		for index := range 2 {
			s := row()
			for _, c := range []api.Coin{coin(0, 30), coin(5, 10), coin(s.block[at].Outs[index].Value, 30)} {
				set := setOf(s.coins...)
				set.Put(out(s.block[at], index), c)
				wantRefused(t, set, s.block, 30, faultAt(at, api.ErrTwice))
			}
		}
	}
}

// TestFeeAheadOfPut: of a transaction that is wrong and whose Out stands there, what is wrong is told.
func TestFeeAheadOfPut(t *testing.T) {
	for _, f := range inFlaws(2, 1) {
		s := row()
		f.make(&s)
		s.hangOn(2)
		set := setOf(s.coins...)
		set.Put(out(s.block[2], 0), coin(1, 1))
		wantRefused(t, set, s.block, 30, f.want)
	}
}

// TestFullSpends: transactions that are no grants find room in a full set, whatever they pay.
func TestFullSpends(t *testing.T) {
	s := holding(most/2, most/2)
	a := join([]api.Point{point(1), point(0)}, most)
	b := spend(out(a, 0), 1, 0, most-1)
	wantApplied(t, s, []api.Tx{a, b}, 9, []coins.Entry{entry(point(0), coin(most/2, 1)), entry(point(1), coin(most/2, 1))},
		[]coins.Entry{entry(out(b, 0), coin(1, 9)), entry(out(b, 1), coin(0, 9)), entry(out(b, 2), coin(most-1, 9))})
	if s.Total() != most {
		t.Errorf("P12.1: %d", s.Total())
	}
}

// TestManyOuts: 256 Outs, and 256 Ins of these; the 256th Out stands there already.
func TestManyOuts(t *testing.T) {
	a := spend(point(0), slices.Repeat([]int{3}, 256)...)
	var l []api.Point
	var made []coins.Entry
	for i := range 256 {
		l = append(l, out(a, i))
		made = append(made, entry(l[i], coin(3, 9)))
	}
	b := join(l, 700)
	spent := []coins.Entry{entry(point(0), coin(800, 1))}
	wantApplied(t, holding(800), []api.Tx{a}, 9, spent, made)
	wantApplied(t, holding(800), []api.Tx{a, b}, 9, spent, []coins.Entry{entry(out(b, 0), coin(700, 9))})
	wantApplied(t, holding(800), []api.Tx{a, join(l[1:], 700)}, 9, spent, inOrder(made[0], entry(out(join(l[1:], 700), 0), coin(700, 9))))
	s := holding(800)
	s.Put(l[255], coin(3, 9))
	wantRefused(t, s, []api.Tx{a, b}, 9, faultAt(0, api.ErrTwice))
}

// TestFaultsAreNew: what is written into one fault is in no other one.
func TestFaultsAreNew(t *testing.T) {
	s := holding(100)
	bad := spend(point(0), 50)
	bad.Ins[0].Witness = nil
	l := []api.Tx{tx.Grant(9, outs(5)), bad}
	_, err := block.Apply(s, l, 9)
	var f, in *api.Fault
	if !errors.As(err, &f) || !errors.As(f.Err, &in) {
		t.Fatalf("P12.1: %v is no fault of a fault", err)
	}
	f.At, in.At, in.Err = 8, 9, api.ErrNone
	wantRefused(t, s, l, 9, faultIn(1, 0, api.ErrLock))
}
