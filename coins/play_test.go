package coins_test

import (
	"fmt"
	"math"
	"math/rand"
	"slices"
	"strings"
	"testing"

	"kedge/api"
	"kedge/coins"
)

// plain: the chapter's words over a list that is gone through from its beginning each time.
type plain struct{ l []coins.Entry }

func (s *plain) place(p api.Point) int {
	for i, x := range s.l {
		if x.Point.ID == p.ID && x.Point.Index == p.Index {
			return i
		}
	}
	return -1
}

func (s *plain) total() int {
	sum := 0
	for _, x := range s.l {
		sum += x.Coin.Out.Value
	}
	return sum
}

func (s *plain) put(p api.Point, c api.Coin) api.Errno {
	if len(p.ID) != 32 || c.Height < 0 || c.Height > 1000000 || c.Out.Value < 0 || c.Out.Value > 2100000000000000 {
		return api.ErrArg
	}
	if s.place(p) >= 0 {
		return api.ErrTwice
	}
	if s.total()+c.Out.Value > 2100000000000000 {
		return api.ErrRange
	}
	s.l = append(s.l, coins.Entry{Point: p, Coin: c})
	return api.OK
}

func (s *plain) take(p api.Point) (api.Coin, api.Errno) {
	at := s.place(p)
	if at < 0 {
		return api.Coin{}, api.ErrNone
	}
	c := s.l[at].Coin
	s.l = append(s.l[:at:at], s.l[at+1:]...)
	return c, api.OK
}

// all, each put ahead of the first one that it is less than.
func (s *plain) all() []coins.Entry {
	var l []coins.Entry
	for _, x := range s.l {
		at := 0
		for at < len(l) && (l[at].Point.ID < x.Point.ID || l[at].Point.ID == x.Point.ID && l[at].Point.Index < x.Point.Index) {
			at++
		}
		l = slices.Insert(l, at, x)
	}
	return l
}

// pair: a set, and what it has to be.
type pair struct {
	set  *coins.Set
	want *plain
}

// player hands in what comes by chance, from a fixed beginning.
type player struct{ chance *rand.Rand }

func (y *player) one(l []int) int { return l[y.chance.Intn(len(l))] }

// point among a few, so that they come again; some aren't whole.
func (y *player) point() api.Point {
	ids := []string{id("a"), id("a")[1:] + "b", id("b"), id("\x00"), id("\xff"), id("\x80")}
	if y.chance.Intn(8) == 0 {
		ids = []string{id("a")[1:], id("a") + "a", ""}
	}
	return api.Point{ID: ids[y.chance.Intn(len(ids))], Index: uint32(y.one([]int{0, 1, 2, 256, math.MaxUint32}))}
}

func (y *player) coin() api.Coin {
	value := y.chance.Intn(1000)
	if y.chance.Intn(3) == 0 {
		value = y.one([]int{-1, 0, 1, 5, api.MaxMoney / 2, api.MaxMoney / 3, api.MaxMoney - 1, api.MaxMoney, api.MaxMoney + 1, math.MinInt, math.MaxInt})
	}
	height := y.chance.Intn(1000)
	if y.chance.Intn(5) == 0 {
		height = y.one([]int{-1, 0, 1, api.MaxHeight - 1, api.MaxHeight, api.MaxHeight + 1, math.MinInt, math.MaxInt})
	}
	return api.Coin{Out: api.Out{Value: value, Script: strings.Repeat("s", y.chance.Intn(50))}, Height: height}
}

// room: just what a set has left, or one more.
func (y *player) room(s *plain) api.Coin {
	c := y.coin()
	c.Out.Value, c.Height = api.MaxMoney-s.total()+y.chance.Intn(2), 3
	return c
}

// step does one thing to one of the pairs, and answers them all, told in words what it was.
func (y *player) step(l []pair) ([]pair, string, bool) {
	at := y.chance.Intn(len(l))
	u, p := l[at], y.point()
	switch n := y.chance.Intn(20); {
	case n == 0 && len(l) < 4:
		return append(l, pair{u.set.Copy(), &plain{slices.Clone(u.want.l)}}), fmt.Sprintf("Copy of %d", at), true
	case n == 1 && len(l) > 1:
		return slices.Delete(slices.Clone(l), at, at+1), fmt.Sprintf("%d is let go", at), true
	case n < 9:
		got, e := u.set.Take(p)
		want, code := u.want.take(p)
		return l, fmt.Sprintf("Take of %.4q %d: %v, %d, not %v, %d", p.ID, p.Index, got, e, want, code), got == want && e == code
	}
	c := y.coin()
	if y.chance.Intn(8) == 0 {
		c = y.room(u.want)
	}
	e, want := u.set.Put(p, c), u.want.put(p, c)
	return l, fmt.Sprintf("Put of %.4q %d, %d at %d: %d, not %d", p.ID, p.Index, c.Out.Value, c.Height, e, want), e == want
}

// TestPlays: many calls by chance, of sets and their copies, against plain lists.
func TestPlays(t *testing.T) {
	for seed := range int64(30) {
		y := &player{rand.New(rand.NewSource(seed))}
		l := []pair{{coins.New(), &plain{}}}
		for range 400 {
			next, what, ok := y.step(l)
			if !ok {
				t.Fatalf("P10.1: play %d: %s", seed, what)
			}
			l = next
			for i, u := range l {
				wantAll(t, u.set, u.want.all())
				p := y.point()
				if at := u.want.place(p); at < 0 {
					wantGet(t, u.set, p, api.Coin{}, false)
				}
				if t.Failed() {
					t.Fatalf("P10.2: play %d: set %d behind %s", seed, i, what)
				}
			}
		}
	}
}
