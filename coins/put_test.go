package coins_test

import (
	"fmt"
	"math"
	"strings"
	"testing"

	"kedge/api"
	"kedge/coins"
)

func TestPutIDs(t *testing.T) {
	for _, size := range []int{0, 1, 16, 30, 31, 32, 33, 64, 256, 32 + 1<<16, 70000} {
		for _, fill := range []string{"\x00", "x", "\xff"} {
			want := api.ErrArg
			if size == 32 {
				want = api.OK
			}
			for _, index := range []uint32{0, 1, math.MaxUint32} {
				wantPut(t, coins.New(), api.Point{ID: strings.Repeat(fill, size), Index: index}, coin(5), want)
				wantPut(t, setOf(t, 1, 2), api.Point{ID: strings.Repeat(fill, size), Index: index}, coin(5), want)
			}
		}
	}
	wantPut(t, coins.New(), api.Point{ID: strings.Repeat("é", 16)}, coin(5), api.OK)
	wantPut(t, coins.New(), api.Point{ID: strings.Repeat("é", 32)}, coin(5), api.ErrArg)
}

func TestPutHeights(t *testing.T) {
	for _, x := range []struct {
		height int
		want   api.Errno
	}{
		{0, api.OK}, {1, api.OK}, {999999, api.OK}, {1000000, api.OK},
		{-1, api.ErrArg}, {-2, api.ErrArg}, {1000001, api.ErrArg}, {-1000000, api.ErrArg}, {1 << 32, api.ErrArg}, {1<<32 + 7, api.ErrArg},
		{math.MinInt, api.ErrArg}, {math.MinInt + 1, api.ErrArg}, {math.MaxInt, api.ErrArg}, {math.MaxInt - 1, api.ErrArg},
	} {
		c := coin(5)
		c.Height = x.height
		wantPut(t, coins.New(), point(9), c, x.want)
		wantPut(t, setOf(t, 1, 2), point(9), c, x.want)
	}
}

func TestPutValues(t *testing.T) {
	for _, x := range []struct {
		value int
		want  api.Errno
	}{
		{0, api.OK}, {1, api.OK}, {2099999999999999, api.OK}, {2100000000000000, api.OK},
		{-1, api.ErrArg}, {-2, api.ErrArg}, {2100000000000001, api.ErrArg}, {-2100000000000000, api.ErrArg}, {1 << 62, api.ErrArg},
		{math.MinInt, api.ErrArg}, {math.MinInt + 1, api.ErrArg}, {math.MaxInt, api.ErrArg}, {math.MaxInt - 1, api.ErrArg},
	} {
		wantPut(t, coins.New(), point(9), coin(x.value), x.want)
		wantPut(t, setOf(t, 0, 0), point(9), coin(x.value), x.want)
	}
	// What is no amount isn't taken for less of all coins together.
	wantPut(t, setOf(t, 5), point(9), coin(-5), api.ErrArg)
	wantPut(t, setOf(t, api.MaxMoney), point(9), coin(-1), api.ErrArg)
}

// TestPutScripts: they are no matter of Put's, however long.
func TestPutScripts(t *testing.T) {
	s := coins.New()
	for i, size := range []int{0, 1, 39, 40, 41, 42, 70000} {
		c := coin(i)
		c.Out.Script = strings.Repeat("\xff", size)
		wantPut(t, s, point(i), c, api.OK)
		wantTake(t, s, point(i), c, api.OK)
	}
}

func TestPutTwice(t *testing.T) {
	others := map[string]func(*api.Coin){
		"the same coin":    func(c *api.Coin) {},
		"another Value":    func(c *api.Coin) { c.Out.Value++ },
		"without a Value":  func(c *api.Coin) { c.Out.Value = 0 },
		"another Script":   func(c *api.Coin) { c.Out.Script = "another" },
		"another Height":   func(c *api.Coin) { c.Height++ },
		"without anything": func(c *api.Coin) { *c = api.Coin{} },
	}
	for name, change := range others {
		t.Run(name, func(t *testing.T) {
			s := setOf(t, 10, 20, 30, 40)
			for i := range 4 {
				c := coin(10 + 10*i)
				change(&c)
				p := point(i)
				wantPut(t, s, api.Point{ID: strings.Clone(p.ID), Index: p.Index}, c, api.ErrTwice)
			}
			wantAll(t, s, entriesOf(10, 20, 30, 40))
		})
	}
	// A coin that is worth nothing, and has nothing, is there as others are.
	s := coins.New()
	wantPut(t, s, point(0), api.Coin{}, api.OK)
	wantPut(t, s, point(0), api.Coin{}, api.ErrTwice)
	wantPut(t, s, point(0), coin(5), api.ErrTwice)
	wantAll(t, s, []coins.Entry{{Point: point(0)}})
}

// TestPutNearPoints: another byte of the ID alone, or another Index alone, is another point.
func TestPutNearPoints(t *testing.T) {
	s := coins.New()
	wantPut(t, s, api.Point{ID: id("m"), Index: 1}, coin(5), api.OK)
	for at := range 32 {
		near := []byte(id("m"))
		near[at]++
		wantPut(t, s, api.Point{ID: string(near), Index: 1}, coin(5), api.OK)
		near[at] ^= 0x80
		wantPut(t, s, api.Point{ID: string(near), Index: 1}, coin(5), api.OK)
	}
	for _, index := range []uint32{0, 2, 1 << 8, 1 << 16, 1<<16 + 1, 1 << 31, 1<<31 + 1, math.MaxUint32} {
		wantPut(t, s, api.Point{ID: id("m"), Index: index}, coin(5), api.OK)
	}
	if s.Len() != 73 || s.Total() != 365 {
		t.Errorf("P10.2: %d coins of 5 are %d, not 73 and 365", s.Len(), s.Total())
	}
}

func TestPutTogether(t *testing.T) {
	const most = 2100000000000000
	for _, there := range [][]int{{most}, {most, 0}, {0, most}, {most - 1}, {1}, {5}, {most / 2}, {most / 3, most / 3}, {1, 2, 3, most - 7}, {0}, {}} {
		name := fmt.Sprint(there)
		left := most
		for _, v := range there {
			left -= v
		}
		s := setOf(t, there...)
		if left < most {
			wantPut(t, s, point(90), coin(left+1), api.ErrRange)
			wantPut(t, s, point(90), coin(most), api.ErrRange)
		}
		// What was refused isn't counted: there is still room for all that is left, and for nothing beyond it.
		wantPut(t, s, point(90), coin(left), api.OK)
		wantPut(t, s, point(91), coin(1), api.ErrRange)
		wantPut(t, s, point(91), coin(0), api.OK)
		if s.Total() != most || s.Len() != len(there)+2 {
			t.Errorf("P10.2: behind %s: %d, %d", name, s.Total(), s.Len())
		}
		// What is taken out makes room again.
		wantTake(t, s, point(90), coin(left), api.OK)
		if left < most {
			wantPut(t, s, point(92), coin(left+1), api.ErrRange)
		}
		wantPut(t, s, point(92), coin(left), api.OK)
	}
}

// fault of a Put, beside what is right; room is how much the set has left.
type fault struct {
	name string
	e    api.Errno
	make func(room int, p *api.Point, c *api.Coin)
}

// faults, in the order in which Put tells them; none takes back what one ahead of it does.
func faults() []fault {
	return []fault{
		{"an ID of 31 bytes", api.ErrArg, func(_ int, p *api.Point, _ *api.Coin) { p.ID = id("x")[1:] }},
		{"an ID of 33 bytes", api.ErrArg, func(_ int, p *api.Point, _ *api.Coin) { p.ID = id("x") + "x" }},
		{"an empty ID", api.ErrArg, func(_ int, p *api.Point, _ *api.Coin) { p.ID = "" }},
		{"a Height of -1", api.ErrArg, func(_ int, _ *api.Point, c *api.Coin) { c.Height = -1 }},
		{"a Height above MaxHeight", api.ErrArg, func(_ int, _ *api.Point, c *api.Coin) { c.Height = api.MaxHeight + 1 }},
		{"a Value of -1", api.ErrArg, func(_ int, _ *api.Point, c *api.Coin) { c.Out.Value = -1 }},
		{"a Value above MaxMoney", api.ErrArg, func(_ int, _ *api.Point, c *api.Coin) { c.Out.Value = api.MaxMoney + 1 }},
		{"a point that is there", api.ErrTwice, func(_ int, p *api.Point, _ *api.Coin) {
			if len(p.ID) == 32 {
				*p = point(1)
			}
		}},
		{"too much together", api.ErrRange, func(room int, _ *api.Point, c *api.Coin) {
			if c.Out.Value >= 0 && c.Out.Value <= api.MaxMoney {
				c.Out.Value = room + 1
			}
		}},
	}
}

// TestPutOrder: of two faults at once the one is told that the sentence has first.
func TestPutOrder(t *testing.T) {
	const room = 100
	var none *coins.Set
	for i, first := range faults() {
		for _, second := range faults()[i:] {
			s := setOf(t, 10, api.MaxMoney-10-room)
			p, c := point(9), coin(room)
			first.make(room, &p, &c)
			second.make(room, &p, &c)
			t.Run(first.name+" and "+second.name, func(t *testing.T) {
				wantPut(t, s, p, c, first.e)
				wantAll(t, s, entriesOf(10, api.MaxMoney-10-room))
				if e := none.Put(p, c); e != api.ErrNil {
					t.Errorf("P10.1: into nil: %d", e)
				}
				wantPut(t, s, point(9), coin(room), api.OK)
			})
		}
	}
}

func TestTake(t *testing.T) {
	s := setOf(t, 10, 20, 30, 40)
	for _, p := range []api.Point{point(4), point(5), {}, {ID: point(0).ID[:31]}, {ID: point(0).ID + "0"}, {ID: point(0).ID, Index: 3}, {ID: point(0).ID, Index: 1 << 31}, {ID: id("\x00"), Index: math.MaxUint32}, {ID: strings.Repeat("0", 70000)}} {
		wantTake(t, s, p, api.Coin{}, api.ErrNone)
		wantAll(t, s, entriesOf(10, 20, 30, 40))
	}
	p := point(1)
	wantTake(t, s, api.Point{ID: strings.Clone(p.ID), Index: p.Index}, coin(20), api.OK)
	wantTake(t, s, p, api.Coin{}, api.ErrNone)
	l := entriesOf(10, 20, 30, 40)
	wantAll(t, s, []coins.Entry{l[0], l[2], l[3]})
	// Its point is free: another coin may be put there, and it is that one that comes out.
	wantPut(t, s, p, coin(25), api.OK)
	wantAll(t, s, entriesOf(10, 25, 30, 40))
	wantTake(t, s, p, coin(25), api.OK)
	wantTake(t, s, p, api.Coin{}, api.ErrNone)
	wantTake(t, s, point(3), coin(40), api.OK)
	wantTake(t, s, point(0), coin(10), api.OK)
	wantAll(t, s, l[2:3])
	wantTake(t, s, point(2), coin(30), api.OK)
	wantAll(t, s, nil)
	wantTake(t, s, point(2), api.Coin{}, api.ErrNone)
}

// TestTakeWholeCoins: a coin comes out with every part that it went in with.
func TestTakeWholeCoins(t *testing.T) {
	for _, c := range []api.Coin{
		{}, {Height: api.MaxHeight}, {Out: api.Out{Value: api.MaxMoney}}, {Out: api.Out{Script: "\x00\xff"}},
		{Out: api.Out{Value: 1, Script: strings.Repeat("s", 41)}, Height: 1},
	} {
		s := coins.New()
		wantPut(t, s, point(0), c, api.OK)
		wantGet(t, s, point(0), c, true)
		wantAll(t, s, []coins.Entry{{Point: point(0), Coin: c}})
		wantTake(t, s, point(0), c, api.OK)
		wantAll(t, s, nil)
	}
}
