package coins_test

import (
	"math"
	"math/rand"
	"slices"
	"strings"
	"testing"

	"kedge/api"
	"kedge/coins"
)

func TestGet(t *testing.T) {
	s := setOf(t, 10, 0, 30, 40)
	for i, v := range []int{10, 0, 30, 40} {
		p := point(i)
		// To look at a coin doesn't take it.
		wantGet(t, s, p, coin(v), true)
		wantGet(t, s, api.Point{ID: strings.Clone(p.ID), Index: p.Index}, coin(v), true)
	}
	for _, p := range []api.Point{point(4), {}, {ID: point(0).ID[:31]}, {ID: point(0).ID + "0"}, {ID: point(0).ID, Index: 3}, {ID: point(0).ID, Index: math.MaxUint32}, {ID: strings.Repeat("0", 70000)}} {
		wantGet(t, s, p, api.Coin{}, false)
	}
	wantAll(t, s, entriesOf(10, 0, 30, 40))
}

func TestLenAndTotal(t *testing.T) {
	s := coins.New()
	want := func(n, total int) {
		t.Helper()
		if s.Len() != n || s.Total() != total {
			t.Errorf("P10.2: Len is %d, Total %d, not %d, %d", s.Len(), s.Total(), n, total)
		}
	}
	want(0, 0)
	sum := 0
	for i := range 1000 {
		s.Put(point(i), coin(i))
		sum += i
		want(i+1, sum)
		s.Put(point(i), coin(9))
		s.Put(api.Point{}, coin(9))
		s.Put(point(2000), coin(api.MaxMoney+1))
		s.Put(point(2000), coin(api.MaxMoney-sum+1))
		s.Take(point(2000))
		want(i+1, sum)
	}
	for i := range 1000 {
		s.Take(point(i))
		sum -= i
		want(999-i, sum)
		s.Take(point(i))
		want(999-i, sum)
	}
}

// ordered: points, each ahead of the next one; an Index is ordered as a number, an ID by its bytes.
func ordered() []api.Point {
	var l []api.Point
	for _, id := range []string{
		id("\x00"), id("\x00")[1:] + "\x01", id("\x00")[1:] + "\xff", "\x00" + id("\x01")[1:], "\x01" + id("\x00")[1:], "\x01" + id("\xff")[1:],
		id("0"), id("B"), id("a"), id("a")[1:] + "b", "a" + id("z")[1:], "b" + id("a")[1:], id("m")[1:] + "l", id("m"), id("m")[1:] + "n", id("\x7f"), id("\x80"), id("é")[:32], id("\xff")[1:] + "\xfe", id("\xff"),
	} {
		for _, index := range []uint32{0, 1, 2, 9, 10, 255, 256, 257, 1 << 16, 1<<31 - 1, 1 << 31, math.MaxUint32 - 1, math.MaxUint32} {
			l = append(l, api.Point{ID: id, Index: index})
		}
	}
	return l
}

// TestAllInOrder: however the coins were put, and whatever their Values, Scripts and Heights are.
func TestAllInOrder(t *testing.T) {
	var want []coins.Entry
	for i, p := range ordered() {
		want = append(want, coins.Entry{Point: p, Coin: api.Coin{Out: api.Out{Value: (i * 37) % 101, Script: strings.Repeat("z", i%7)}, Height: 1000 - i}})
	}
	chance := rand.New(rand.NewSource(10))
	for round := range 30 {
		put := slices.Clone(want)
		switch round {
		case 0:
		case 1:
			slices.Reverse(put)
		default:
			chance.Shuffle(len(put), func(i, k int) { put[i], put[k] = put[k], put[i] })
		}
		s := coins.New()
		for _, x := range put {
			if e := s.Put(x.Point, x.Coin); e != api.OK {
				t.Fatalf("P10.1: Put is %d", e)
			}
		}
		wantAll(t, s, want)
		wantAll(t, s.Copy(), want)
		// Without every other one of them.
		var left []coins.Entry
		for i, x := range want {
			if i%2 == round%2 {
				wantTake(t, s, x.Point, x.Coin, api.OK)
			} else {
				left = append(left, x)
			}
		}
		wantAll(t, s, left)
	}
}

// TestAllIsNewMemory: rule 4, of what All answers, and of what lies behind its length.
func TestAllIsNewMemory(t *testing.T) {
	for _, values := range [][]int{{}, {1}, {1, 2}, {1, 2, 3, 4, 5}} {
		s := setOf(t, values...)
		first, second := s.All(), s.All()
		whole := first[:cap(first)]
		for i := range whole {
			whole[i] = coins.Entry{Point: api.Point{ID: "spoiled"}, Coin: coin(-1)}
		}
		_ = append(first, whole...)
		if told(second) != told(entriesOf(values...)) {
			t.Errorf("rule 4: two answers of All share memory: %s", brief(told(second)))
		}
		for _, x := range second[len(second):cap(second)] {
			if x != (coins.Entry{}) {
				t.Errorf("rule 4: behind what All answers lies %v", x)
			}
		}
		wantAll(t, s, entriesOf(values...))
		// Nor does an answer go on with what is done later.
		s.Put(point(90), coin(9))
		s.Take(point(0))
		if told(second) != told(entriesOf(values...)) {
			t.Errorf("rule 4: an answer of All changed: %s", brief(told(second)))
		}
	}
}

// deeds: what may be done to a set of 10, 20 and 30.
func deeds() map[string]func(*coins.Set) {
	return map[string]func(*coins.Set){
		"Put":            func(s *coins.Set) { s.Put(point(7), coin(70)) },
		"Put of much":    func(s *coins.Set) { s.Put(point(7), coin(api.MaxMoney-60)) },
		"Take":           func(s *coins.Set) { s.Take(point(1)) },
		"Take of all":    func(s *coins.Set) { s.Take(point(0)); s.Take(point(1)); s.Take(point(2)) },
		"Take and Put":   func(s *coins.Set) { s.Take(point(0)); s.Put(point(0), coin(99)) },
		"refused Put":    func(s *coins.Set) { s.Put(point(0), coin(5)); s.Put(point(8), coin(api.MaxMoney)) },
		"refused Take":   func(s *coins.Set) { s.Take(point(8)) },
		"another's Copy": func(s *coins.Set) { s.Copy().Take(point(0)) },
		"many Puts": func(s *coins.Set) {
			for i := range 5000 {
				s.Put(point(10+i), coin(1))
			}
		},
	}
}

// TestCopy: whatever is done to either set, the other one stays, and has room for what it had room for.
func TestCopy(t *testing.T) {
	for name, deed := range deeds() {
		t.Run(name, func(t *testing.T) {
			for _, which := range []string{"the set", "its copy", "its copy's copy"} {
				s := setOf(t, 10, 20, 30)
				c := s.Copy()
				d := c.Copy()
				for _, u := range []*coins.Set{c, d} {
					wantAll(t, u, entriesOf(10, 20, 30))
				}
				sets := map[string]*coins.Set{"the set": s, "its copy": c, "its copy's copy": d}
				deed(sets[which])
				for other, u := range sets {
					if other == which {
						continue
					}
					wantAll(t, u, entriesOf(10, 20, 30))
					wantPut(t, u, point(9), coin(api.MaxMoney-59), api.ErrRange)
					wantPut(t, u, point(9), coin(api.MaxMoney-60), api.OK)
				}
			}
		})
	}
}

func TestCopyOfNothing(t *testing.T) {
	s := coins.New()
	c := s.Copy()
	if c == nil {
		t.Fatalf("P10.2: the copy of a set without coins is nil")
	}
	wantAll(t, c, nil)
	wantPut(t, c, point(0), coin(5), api.OK)
	wantAll(t, s, nil)
	wantPut(t, s, point(0), coin(6), api.OK)
	wantAll(t, c, entriesOf(5))
	// Emptied, and then copied.
	wantTake(t, c, point(0), coin(5), api.OK)
	d := c.Copy()
	wantAll(t, d, nil)
	wantPut(t, d, point(0), coin(api.MaxMoney), api.OK)
	wantAll(t, c, nil)
}
