package check_test

import (
	"errors"
	"math"
	"math/rand"
	"testing"

	"kedge/api"
	"kedge/check"
	"kedge/lock"
	"kedge/tx"
)

// byWords: the chapter's sentence, with all faults of all Ins put down first, and the first of them told.
func byWords(l ledger, u api.Tx, height int) answer {
	if e := tx.Check(u); e != api.OK {
		return refused(e)
	}
	if tx.Base(u) {
		return refused(api.ErrForm)
	}
	var faults []answer
	have, pays := 0, 0
	for i, in := range u.Ins {
		c, ok := l[in.From]
		if !ok {
			faults = append(faults, faultAt(i, api.ErrNone))
		}
		if e := lock.Open(c.Out.Script, u, i); ok && e != api.OK {
			faults = append(faults, faultAt(i, e))
		}
		if ok && !lock.Ripe(u, i, c.Height, height) {
			faults = append(faults, faultAt(i, api.ErrEarly))
		}
		have += c.Out.Value
	}
	for _, out := range u.Outs {
		pays += out.Value
	}
	switch {
	case len(faults) > 0:
		return faults[0]
	case have < 0 || have > most:
		return refused(api.ErrRange)
	}
	return lessThan(pays, have)
}

// player makes scenes by chance, from a fixed beginning; of so many parts one is wrong.
type player struct {
	*rand.Rand
	wrong int
}

func (y player) bad() bool { return y.Intn(y.wrong) == 0 }

func (y player) one(l ...int) int { return l[y.Intn(len(l))] }

func (y player) branch() api.Branch {
	b := api.Branch{Tag: uint16(y.Intn(3))}
	if y.Intn(3) == 0 {
		b.Delay = uint16(y.Intn(6))
	}
	if y.Intn(3) == 0 {
		b.Height = uint32(y.Intn(12))
	}
	return b
}

// coin with a lock, and an In that most often opens it.
func (y player) coin(p api.Point) (api.Coin, api.In) {
	l := make([]api.Branch, 1+y.Intn(3))
	for i := range l {
		l[i] = y.branch()
	}
	at := y.Intn(len(l))
	in := api.In{From: p, Sequence: plain, Witness: signed(at, l[at].Tag)}
	if l[at].Delay > 0 {
		in.Sequence = uint32(l[at].Delay)
	}
	c := api.Coin{Out: api.Out{Value: y.Intn(1000), Script: scriptOf(l...)}, Height: y.Intn(8)}
	if y.bad() {
		in.Sequence = uint32(y.one(0, 1, 5, 65536+2, 1<<31, plain, final))
	}
	if y.bad() {
		in.Witness = [][]string{nil, {""}, signed(y.Intn(4), uint16(y.Intn(3))), append(signed(at, l[at].Tag), "")}[y.Intn(4)]
	}
	if y.bad() {
		c.Height = y.one(-1, 0, 15, top, top+1, math.MaxInt)
	}
	if y.bad() {
		c.Out.Value = y.one(-1, 0, most, most+1, math.MinInt, math.MaxInt)
	}
	if y.bad() {
		c.Out.Script = c.Out.Script[1:]
	}
	return c, in
}

func (y player) scene() scene {
	s := scene{tx: api.Tx{Version: 2, LockTime: uint32(y.Intn(12))}, height: 12 + y.Intn(8)}
	have := 0
	for i := range 1 + y.Intn(4) {
		c, in := y.coin(point(i))
		have += c.Out.Value
		if y.bad() {
			in.From = []api.Point{base, point(y.Intn(4)), point(90)}[y.Intn(3)]
		}
		s.coins, s.tx.Ins = append(s.coins, entry(i, c)), append(s.tx.Ins, in)
	}
	for range y.Intn(3) {
		n := y.Intn(300)
		have -= n
		s.tx.Outs = append(s.tx.Outs, api.Out{Value: n, Script: "script"})
	}
	s.tx.Outs = append(s.tx.Outs, api.Out{Value: min(max(have, 0), most) / (1 + y.Intn(3))})
	if y.bad() {
		s.tx.Outs[0].Value += y.one(-1, 1, 500, most)
	}
	if y.bad() {
		s.tx.Version = uint32(y.Intn(4))
	}
	if y.bad() {
		s.height = y.one(-1, 0, 1, 5, 9, 10, 11, top, top+1, math.MaxInt)
	}
	return s
}

// TestPlays: random transactions over random coins, against the sentence.
func TestPlays(t *testing.T) {
	y := player{Rand: rand.New(rand.NewSource(11))}
	seen := map[api.Errno]int{}
	later := 0
	for i := range 40000 {
		y.wrong = 4 + i%60
		s := y.scene()
		want := byWords(s.ledger(), s.tx, s.height)
		seen[want.code]++
		if want.at > 0 {
			later++
		}
		if s.want(t, want); t.Failed() {
			t.Fatalf("P11.1: play %d", i)
		}
	}
	for _, e := range []api.Errno{api.OK, api.ErrForm, api.ErrTwice, api.ErrRange, api.ErrNone, api.ErrLock, api.ErrEarly, api.ErrValue} {
		if seen[e] < 100 {
			t.Errorf("only %d plays of %d", seen[e], e)
		}
	}
	if later < 1000 {
		t.Errorf("only %d plays with a fault at a later In", later)
	}
}

// TestMeans: P11.2, of all that has a fee: each coin is there, opened and ripe, no more is paid out, and the fee stays.
func TestMeans(t *testing.T) {
	y := player{Rand: rand.New(rand.NewSource(112)), wrong: 40}
	fees := 0
	for range 4000 {
		s := y.scene()
		fee, ok := feeOf(t, s)
		if !ok {
			continue
		}
		fees++
		l, have, pays := s.ledger(), 0, 0
		for i, in := range s.tx.Ins {
			c, there := l[in.From]
			if !there || lock.Open(c.Out.Script, s.tx, i) != api.OK || !lock.Ripe(s.tx, i, c.Height, s.height) {
				t.Fatalf("P11.2: a fee of %d, but In %d is wrong: %s", fee, i, told(s.tx))
			}
			have += c.Out.Value
		}
		for _, out := range s.tx.Outs {
			pays += out.Value
		}
		if pays > have || fee != have-pays {
			t.Fatalf("P11.2: a fee of %d of %d, with %d paid: %s", fee, have, pays, told(s.tx))
		}
		for _, height := range []int{s.height + 1, s.height + 2, s.height + 3, s.height + y.Intn(1000), top - 1, top} {
			height = min(max(height, s.height), top)
			if n, err := check.Fee(l, s.tx, height); n != fee || err != nil {
				t.Fatalf("P11.2: a fee of %d in %d, but %d, %v in %d: %s", fee, s.height, n, err, height, told(s.tx))
			}
		}
	}
	if fees < 1000 {
		t.Errorf("only %d fees", fees)
	}
}

// TestAnything: P1, whatever is handed in; what is told is a number, or a fault at an In that there is.
func TestAnything(t *testing.T) {
	y := player{Rand: rand.New(rand.NewSource(1)), wrong: 2}
	for range 5000 {
		s := y.scene()
		s.height = y.one(heights()...)
		fee, err := check.Fee(s.ledger(), s.tx, s.height)
		var f *api.Fault
		if errors.As(err, &f) && (f.At < 0 || f.At >= len(s.tx.Ins)) || err != nil && (fee != 0 || api.Code(err) == api.OK) || fee < 0 || fee > most {
			t.Fatalf("P1: %d, %v in %d: %s", fee, err, s.height, told(s.tx))
		}
	}
}
