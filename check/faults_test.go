package check_test

import (
	"fmt"
	"math"
	"slices"
	"strings"
	"testing"

	"kedge/api"
	"kedge/coins"
)

// granting: a grant, with so much in its one Out.
func granting(value int) api.Tx {
	return api.Tx{Version: 2, Ins: []api.In{{From: base, Sequence: final}}, Outs: []api.Out{{Value: value}}, LockTime: 11}
}

// heights at their limits, and beyond them.
func heights() []int {
	return []int{math.MinInt, math.MinInt + 1, -1 << 32, -2, -1, 0, 1, 2, 29, 30, 31, 999999, top, top + 1, 1<<32 + 30, math.MaxInt - 1, math.MaxInt}
}

// flaw of a scene, and the answer that it is refused with.
type flaw struct {
	name string
	want answer
	make func(*scene)
}

// checkFlaws: what layer 5's Check tells of, in its order.
func checkFlaws() []flaw {
	return []flaw{
		{"no Ins", refused(api.ErrCount), func(s *scene) { s.tx.Ins = nil }},
		{"no Outs", refused(api.ErrCount), func(s *scene) { s.tx.Outs = nil }},
		{"257 Ins", refused(api.ErrCount), func(s *scene) {
			for i := len(s.tx.Ins); i < 257; i++ {
				s.tx.Ins = append(s.tx.Ins, api.In{From: point(i)})
			}
		}},
		{"257 Outs", refused(api.ErrCount), func(s *scene) { s.tx.Outs = append(s.tx.Outs, make([]api.Out, 257)[len(s.tx.Outs):]...) }},
		{"5 texts", refused(api.ErrCount), func(s *scene) { s.tx.Ins[2].Witness = make([]string, 5) }},
		{"a long Script", refused(api.ErrLong), func(s *scene) { s.tx.Outs[1].Script = strings.Repeat("s", 41) }},
		{"a long text", refused(api.ErrLong), func(s *scene) { s.tx.Ins[2].Witness = []string{strings.Repeat("w", 81)} }},
		{"an ID of 31 bytes", refused(api.ErrForm), func(s *scene) { s.tx.Ins[2].From.ID = strings.Repeat("i", 31) }},
		{"an ID of 33 bytes", refused(api.ErrForm), func(s *scene) { s.tx.Ins[2].From.ID = strings.Repeat("i", 33) }},
		{"the base point among others", refused(api.ErrForm), func(s *scene) { s.tx.Ins[2].From = base }},
		{"an output twice", refused(api.ErrTwice), func(s *scene) { s.tx.Ins[2].From = s.tx.Ins[1].From }},
		{"a Value below 0", refused(api.ErrRange), func(s *scene) { s.tx.Outs[1].Value = -1 }},
		{"a Value above MaxMoney", refused(api.ErrRange), func(s *scene) { s.tx.Outs[1].Value = most + 1 }},
		{"Outs of too much", refused(api.ErrRange), func(s *scene) { s.tx.Outs[0].Value, s.tx.Outs[1].Value = most, 1 }},
	}
}

// inFlaws: what may be wrong in the In at a place, in the order in which it is told.
func inFlaws(at int) []flaw {
	coin := func(s *scene) *api.Coin { return &s.coins[at].Coin }
	in := func(s *scene) *api.In { return &s.tx.Ins[at] }
	l := []flaw{
		{"no coin", faultAt(at, api.ErrNone), func(s *scene) { s.coins[at].Point = point(90 + at) }},
		{"an empty script", faultAt(at, api.ErrLock), func(s *scene) { coin(s).Out.Script = "" }},
		{"no lock's script", faultAt(at, api.ErrLock), func(s *scene) { coin(s).Out.Script = scriptOf(api.Branch{}, api.Branch{}, api.Branch{}) + "\x00" }},
		{"a lock's Height above MaxHeight", faultAt(at, api.ErrLock), func(s *scene) {
			coin(s).Out.Script = scriptOf(api.Branch{}, api.Branch{}, api.Branch{}, api.Branch{Height: top + 1})
		}},
		{"no Witness", faultAt(at, api.ErrLock), func(s *scene) { in(s).Witness = nil }},
		{"two Witnesses", faultAt(at, api.ErrLock), func(s *scene) { in(s).Witness = append(signed(at, 8), signed(at, 8)...) }},
		{"no such branch", faultAt(at, api.ErrLock), func(s *scene) {
			coin(s).Out.Script, in(s).Witness = scriptOf(api.Branch{Tag: 8}), signed(1, 8)
		}},
		{"another tag", faultAt(at, api.ErrLock), func(s *scene) {
			coin(s).Out.Script, in(s).Witness = scriptOf(api.Branch{Tag: 8}), signed(0, 7)
		}},
		{"less than the Delay", faultAt(at, api.ErrEarly), func(s *scene) {
			coin(s).Out.Script, in(s).Sequence, in(s).Witness = scriptOf(api.Branch{Tag: 8, Delay: 5}), 4, signed(0, 8)
		}},
		{"a Delay for one who doesn't wait", faultAt(at, api.ErrEarly), func(s *scene) {
			coin(s).Out.Script, in(s).Sequence, in(s).Witness = scriptOf(api.Branch{Tag: 8, Delay: 1}), 1<<31, signed(0, 8)
		}},
		{"a LockTime below the Height", faultAt(at, api.ErrEarly), func(s *scene) {
			coin(s).Out.Script, in(s).Sequence, in(s).Witness = scriptOf(api.Branch{Tag: 8, Height: 21}), plain, signed(0, 8)
		}},
		{"a Height for a final one", faultAt(at, api.ErrEarly), func(s *scene) {
			coin(s).Out.Script, in(s).Sequence, in(s).Witness = scriptOf(api.Branch{Tag: 8, Height: 1}), final, signed(0, 8)
		}},
		{"a coin of a later block", faultAt(at, api.ErrEarly), func(s *scene) { coin(s).Height = 31 }},
		{"a wait that is too long", faultAt(at, api.ErrEarly), func(s *scene) { coin(s).Height, in(s).Sequence = 20, 11 }},
	}
	for i := range l {
		l[i].name += fmt.Sprintf(" at %d", at)
	}
	return l
}

// sumFlaws: what may be wrong of all together, in the order in which it is told.
func sumFlaws() []flaw {
	return []flaw{
		{"coins of too much", refused(api.ErrRange), func(s *scene) { s.coins[0].Coin.Out.Value = most }},
		{"coins below 0", refused(api.ErrRange), func(s *scene) { s.coins[0].Coin.Out.Value = -201 }},
		{"coins of too little", refused(api.ErrValue), func(s *scene) { s.tx.Outs[0].Value = 251 }},
	}
}

// flaws of all kinds, in the order of the chapter's sentence.
func flaws() []flaw {
	return slices.Concat(checkFlaws(), inFlaws(0), inFlaws(1), inFlaws(2), sumFlaws())
}

func TestEachFlaw(t *testing.T) {
	for _, f := range flaws() {
		t.Run(f.name, func(t *testing.T) {
			s := mixed()
			f.make(&s)
			s.want(t, f.want)
		})
	}
}

// TestTwoFlaws: of two at once the one is told that the sentence has first.
func TestTwoFlaws(t *testing.T) {
	l := flaws()
	for i, first := range l {
		for _, later := range l[i+1:] {
			s := mixed()
			// Some have no room beside others (an In that isn't there has no Witness): the first one is always whole.
			if !tryFlaw(later, &s) || !tryFlaw(first, &s) {
				continue
			}
			t.Run(first.name+" and "+later.name, func(t *testing.T) { s.want(t, first.want) })
		}
	}
}

// tryFlaw: false, if a scene hasn't got what it is to spoil.
func tryFlaw(f flaw, s *scene) (ok bool) {
	defer func() { ok = recover() == nil }()
	f.make(s)
	return true
}

// TestAllFlaws: with everything wrong, and then less and less, from the front on.
func TestAllFlaws(t *testing.T) {
	l := slices.Concat(checkFlaws()[3:], inFlaws(0), inFlaws(1), inFlaws(2), sumFlaws())
	for i, first := range l {
		s := mixed()
		for _, f := range slices.Backward(l[i:]) {
			f.make(&s)
		}
		t.Run("from "+first.name, func(t *testing.T) { s.want(t, first.want) })
	}
}

// TestGrant: no coin makes one good, nor is it asked for.
func TestGrant(t *testing.T) {
	l := ledger{base: {Out: api.Out{Value: 100, Script: scriptOf(api.Branch{})}, Height: 1}}
	set := coins.New()
	if e := set.Put(base, l[base]); e != api.OK {
		t.Fatal(e)
	}
	for _, height := range heights() {
		for _, value := range []int{0, 1, 100, 101, most} {
			u := granting(value)
			wantFee(t, ledger{}, u, height, refused(api.ErrForm))
			wantFee(t, l, u, height, refused(api.ErrForm))
			wantFee(t, set, u, height, refused(api.ErrForm))
			u.Ins[0].Witness = signed(0, 1)
			wantFee(t, l, u, height, refused(api.ErrForm))
			wantFee(t, set, u, height, refused(api.ErrForm))
		}
	}
	// What Check tells of goes ahead.
	for _, value := range []int{-1, most + 1, math.MaxInt, math.MinInt} {
		wantFee(t, l, granting(value), 30, refused(api.ErrRange))
	}
	u := granting(1)
	u.Outs = nil
	wantFee(t, l, u, 30, refused(api.ErrCount))
	u = granting(1)
	u.Outs[0].Script = strings.Repeat("s", 41)
	wantFee(t, l, u, 30, refused(api.ErrLong))
	// What is near the base point is an output like others.
	for _, p := range []api.Point{{ID: base.ID, Index: base.Index - 1}, {ID: base.ID}, {ID: strings.Repeat("\x00", 31) + "\x01", Index: base.Index}} {
		s := spending(400, 500)
		s.coins[0].Point, s.tx.Ins[0].From = p, p
		s.want(t, paid(100))
		s.coins[0].Point = point(0)
		s.want(t, faultAt(0, api.ErrNone))
	}
}

// TestNoCoin: of an In in each place, and of several the first.
func TestNoCoin(t *testing.T) {
	const ins = 5
	for missing := 1; missing < 1<<ins; missing++ {
		s := spending(100, 100, 100, 100, 100, 100)
		first := -1
		for at := range ins {
			if missing&(1<<at) != 0 {
				s.coins[at].Point = point(90 + at)
				if first < 0 {
					first = at
				}
			}
		}
		s.putable(t).want(t, faultAt(first, api.ErrNone))
	}
	for _, at := range []int{0, 1, 127, 254, 255} {
		s := spending(0, make([]int, 256)...)
		s.coins[at].Point = point(900)
		s.putable(t).want(t, faultAt(at, api.ErrNone))
	}
}

// TestNearPoints: a coin by another byte of the ID alone, or another Index alone, is another one.
func TestNearPoints(t *testing.T) {
	s := spending(400, 500)
	id := s.tx.Ins[0].From.ID
	for at := range 32 {
		near := []byte(id)
		near[at] ^= 0x80
		s.tx.Ins[0].From = api.Point{ID: string(near)}
		s.want(t, faultAt(0, api.ErrNone))
	}
	for _, index := range []uint32{1, 2, 1 << 8, 1 << 16, 1 << 31, math.MaxUint32} {
		s.tx.Ins[0].From = api.Point{ID: id, Index: index}
		s.want(t, faultAt(0, api.ErrNone))
	}
	s.tx.Ins[0].From = api.Point{ID: strings.Clone(id)}
	s.want(t, paid(100))
}

// TestEachTheirs: each In's coin is its own, in whatever order the coins stand.
func TestEachTheirs(t *testing.T) {
	s := mixed()
	slices.Reverse(s.coins)
	s.want(t, paid(50))
	for i, want := range []answer{faultAt(0, api.ErrLock), faultAt(2, api.ErrLock)} {
		u := mixed()
		u.tx.Ins[i].From, u.tx.Ins[i+1].From = u.tx.Ins[i+1].From, u.tx.Ins[i].From
		u.want(t, want)
	}
}
