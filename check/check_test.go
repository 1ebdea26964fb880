package check_test

import (
	"encoding/binary"
	"errors"
	"fmt"
	"maps"
	"slices"
	"strings"
	"testing"

	"kedge/api"
	"kedge/check"
	"kedge/coins"
)

// Written out, so that a constant of the program that were wrong would be told.
const (
	final = 4294967295       // the Sequence by which an In asks for no LockTime
	plain = 4294967293       // one by which an In neither waits nor is final
	top   = 1000000          // the greatest height
	most  = 2100000000000000 // the greatest amount
)

// base: the base point, written out.
var base = api.Point{ID: strings.Repeat("\x00", 32), Index: 4294967295}

// ledger is a view of the tests' own, that takes any coin; it answers a coin beside a false too, which is none.
type ledger map[api.Point]api.Coin

func (l ledger) Get(p api.Point) (api.Coin, bool) {
	if c, ok := l[p]; ok {
		return c, true
	}
	return api.Coin{Out: api.Out{Value: 777, Script: scriptOf(api.Branch{})}, Height: 1}, false
}

// point: by number, each another one; three of them share an ID.
func point(n int) api.Point {
	return api.Point{ID: fmt.Sprintf("%032d", n/3), Index: uint32(n % 3)}
}

// scriptOf branches by layer 8's words, whatever they are.
func scriptOf(l ...api.Branch) string {
	s := []byte{byte(len(l))}
	for _, b := range l {
		s = binary.LittleEndian.AppendUint16(s, b.Tag)
		s = binary.LittleEndian.AppendUint16(s, b.Delay)
		s = binary.LittleEndian.AppendUint32(s, b.Height)
	}
	return string(s)
}

// signed: a witness by layer 8's words, whatever the branch is.
func signed(branch int, tag uint16) []string {
	return []string{string(binary.LittleEndian.AppendUint16([]byte{byte(branch)}, tag))}
}

// scene: coins that there are, a transaction, and the height of its block. At first the coin at each place is that of the In there.
type scene struct {
	coins  []coins.Entry
	tx     api.Tx
	height int
}

func entry(n int, c api.Coin) coins.Entry { return coins.Entry{Point: point(n), Coin: c} }

// spending coins of these Values, that open by tag 7 from their own block on, with one Out.
func spending(pays int, values ...int) scene {
	s := scene{tx: api.Tx{Version: 2, Outs: []api.Out{{Value: pays, Script: "script"}}}, height: 30}
	for i, v := range values {
		c := api.Coin{Out: api.Out{Value: v, Script: scriptOf(api.Branch{Tag: 7})}, Height: 10 + i%20}
		s.coins = append(s.coins, entry(i, c))
		s.tx.Ins = append(s.tx.Ins, api.In{From: point(i), Sequence: plain, Witness: signed(0, 7)})
	}
	return s
}

// mixed: a scene like others, with a fee of 50: three Ins, of which one waits and one asks for the LockTime.
func mixed() scene {
	s := spending(0, 100, 100, 100)
	s.tx.LockTime = 20
	s.tx.Outs = []api.Out{{Value: 200, Script: "first"}, {Value: 50, Script: "second"}}
	s.coins[1].Coin.Out.Script = scriptOf(api.Branch{Tag: 9}, api.Branch{Tag: 8, Delay: 5})
	s.tx.Ins[1].Sequence, s.tx.Ins[1].Witness = 5, signed(1, 8)
	s.coins[2].Coin.Out.Script = scriptOf(api.Branch{Tag: 9}, api.Branch{Tag: 8}, api.Branch{Height: 20})
	s.tx.Ins[2].Witness = signed(2, 4711)
	return s
}

func (s scene) ledger() ledger {
	l := ledger{}
	for _, x := range s.coins {
		l[x.Point] = x.Coin
	}
	return l
}

// set of layer 10; false, if a set takes none of these coins.
func (s scene) set() (*coins.Set, bool) {
	set := coins.New()
	for _, x := range s.coins {
		if set.Put(x.Point, x.Coin) != api.OK {
			return nil, false
		}
	}
	return set, true
}

// told: all that a transaction has, in a text.
func told(u api.Tx) string {
	var b strings.Builder
	fmt.Fprintf(&b, "Version %d LockTime %d", u.Version, u.LockTime)
	for _, in := range u.Ins {
		fmt.Fprintf(&b, " in %q %d %d %q", in.From.ID, in.From.Index, in.Sequence, in.Witness)
	}
	for _, out := range u.Outs {
		fmt.Fprintf(&b, " out %d %q", out.Value, out.Script)
	}
	return b.String()
}

func brief(text string) string { return text[:min(len(text), 600)] }

// answer of Fee: a fee, or a code and the place of its fault (-1: no fault).
type answer struct {
	fee  int
	code api.Errno
	at   int
}

func paid(fee int) answer { return answer{fee, api.OK, -1} }

func refused(code api.Errno) answer { return answer{0, code, -1} }

func faultAt(at int, code api.Errno) answer { return answer{0, code, at} }

// wantFee of one view.
func wantFee(t *testing.T, v check.View, u api.Tx, height int, want answer) {
	t.Helper()
	before := told(u)
	fee, err := check.Fee(v, u, height)
	if fee != want.fee || !isError(err, want) {
		t.Errorf("P11.1: Fee in %d is %d, %v, not %d, error %d at %d: %s", height, fee, err, want.fee, want.code, want.at, brief(before))
	}
	if after := told(u); after != before {
		t.Errorf("rule 4: Fee made %s of %s", brief(after), brief(before))
	}
}

// isError: is it just the error that is wanted: nil, a number, or a fault that wraps one?
func isError(err error, want answer) bool {
	switch {
	case want.code == api.OK:
		return err == nil
	case want.at < 0:
		return err == error(want.code)
	}
	var f *api.Fault
	return errors.As(err, &f) && errors.Is(err, want.code) && err == error(f) && f.At == want.at && f.Err == error(want.code)
}

// want of a scene the same answer by a view of the tests' own and by a set of layer 10, which stay as they were.
func (s scene) want(t *testing.T, want answer) {
	t.Helper()
	l := s.ledger()
	wantFee(t, l, s.tx, s.height, want)
	if !maps.Equal(l, s.ledger()) {
		t.Errorf("P11.1: Fee changed the view of %s", brief(told(s.tx)))
	}
	if set, ok := s.set(); ok {
		before := set.All()
		wantFee(t, set, s.tx, s.height, want)
		if !slices.Equal(set.All(), before) {
			t.Errorf("P11.1: Fee changed the set of %s", brief(told(s.tx)))
		}
	}
}

// putable: scenes that a set of layer 10 can't hold would be asked of the ledger alone.
func (s scene) putable(t *testing.T) scene {
	t.Helper()
	if _, ok := s.set(); !ok {
		t.Fatalf("no set takes the coins of %s", brief(told(s.tx)))
	}
	return s
}

func TestOrdinary(t *testing.T) {
	mixed().putable(t).want(t, paid(50))
	spending(400, 500).putable(t).want(t, paid(100))
	spending(0, 0).putable(t).want(t, paid(0))
	spending(0, 5, 6, 7).putable(t).want(t, paid(18))
	s := mixed()
	s.tx.Outs = []api.Out{{Value: 1}, {Value: 2}, {Value: 3}}
	s.want(t, paid(294))
	// Coins that nothing spends don't count, whatever they are.
	s.coins = append(s.coins, entry(7, api.Coin{Out: api.Out{Value: 1000}, Height: 40}))
	s.putable(t).want(t, paid(294))
	s.coins = append(s.coins, entry(8, api.Coin{Out: api.Out{Value: -1}, Height: -1}))
	s.want(t, paid(294))
}

func TestExample(t *testing.T) {
	s := mixed()
	s.coins = nil
	s.putable(t).want(t, faultAt(0, api.ErrNone))
}

// TestNilView: ErrNil goes ahead of all else.
func TestNilView(t *testing.T) {
	good := mixed().tx
	long, twice, grant, many := mixed().tx, mixed().tx, mixed().tx, mixed().tx
	long.Outs[0].Script = strings.Repeat("s", 41)
	twice.Ins[1] = twice.Ins[0]
	grant.Ins = []api.In{{From: base}}
	many.Ins = make([]api.In, 257)
	for _, u := range []api.Tx{good, {}, long, twice, grant, many} {
		for _, height := range heights() {
			wantFee(t, nil, u, height, refused(api.ErrNil))
		}
	}
}

// TestViewsWithoutCoins: a nil set is a view that has none, and so is a nil map of the tests' own.
func TestViewsWithoutCoins(t *testing.T) {
	var noSet *coins.Set
	var noLedger ledger
	for _, v := range []check.View{noSet, noLedger, ledger{}, coins.New(), coins.New().Copy(), noSet.Copy()} {
		wantFee(t, v, mixed().tx, 30, faultAt(0, api.ErrNone))
		wantFee(t, v, spending(0, 0).tx, 30, faultAt(0, api.ErrNone))
		wantFee(t, v, api.Tx{}, 30, refused(api.ErrCount))
		wantFee(t, v, granting(1), 30, refused(api.ErrForm))
		for _, height := range heights() {
			wantFee(t, v, mixed().tx, height, faultAt(0, api.ErrNone))
		}
	}
}

// TestSetAsItIs: what is taken out of a set, or put into it, counts at once.
func TestSetAsItIs(t *testing.T) {
	s := mixed()
	set, _ := s.set()
	apart := set.Copy()
	wantFee(t, set, s.tx, 30, paid(50))
	c, _ := set.Take(point(1))
	wantFee(t, set, s.tx, 30, faultAt(1, api.ErrNone))
	wantFee(t, apart, s.tx, 30, paid(50))
	c.Out.Value += 25
	set.Put(point(1), c)
	wantFee(t, set, s.tx, 30, paid(75))
	wantFee(t, apart, s.tx, 30, paid(50))
}

// TestAgain: the same answer each time, and no answer hangs on another one.
func TestAgain(t *testing.T) {
	l := mixed().ledger()
	u := mixed().tx
	bad := mixed().tx
	bad.Ins[2].Witness = nil
	_, first := check.Fee(l, bad, 30)
	for range 3 {
		wantFee(t, l, u, 30, paid(50))
		wantFee(t, l, bad, 30, faultAt(2, api.ErrLock))
	}
	// Each fault is new memory: what is written into one is in none of the others.
	var f *api.Fault
	if !errors.As(first, &f) {
		t.Fatalf("P11.1: %v is no fault", first)
	}
	f.At, f.Err = 9, api.ErrNone
	wantFee(t, l, bad, 30, faultAt(2, api.ErrLock))
}

// TestMemory: what lies behind a list's length isn't read.
func TestMemory(t *testing.T) {
	s := mixed()
	s.tx.Ins[2].From, s.tx.Outs[1].Value = point(50), most
	s.tx.Ins, s.tx.Outs = s.tx.Ins[:2], s.tx.Outs[:1]
	s.want(t, paid(0))
	s.tx.Outs[0].Value = 1
	s.want(t, paid(199))
	s.tx.Ins[1].Witness = append(signed(1, 8), signed(0, 9)...)[:1]
	s.want(t, paid(199))
	s.tx.Ins = s.tx.Ins[:0]
	s.want(t, refused(api.ErrCount))
}
