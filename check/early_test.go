package check_test

import (
	"math"
	"slices"
	"testing"

	"kedge/api"
)

// TestOpen: what layer 8's Open tells of is the fault of that In, at the first and at later ones; beside it what just opens.
func TestOpen(t *testing.T) {
	for _, x := range []struct {
		name     string
		lock     []api.Branch
		witness  []string
		sequence uint32
		want     api.Errno
	}{
		{"its tag", []api.Branch{{Tag: 7}}, signed(0, 7), plain, api.OK},
		{"another tag", []api.Branch{{Tag: 7}}, signed(0, 8), plain, api.ErrLock},
		{"the tag 0", []api.Branch{{Tag: 7}}, signed(0, 0), plain, api.ErrLock},
		{"any tag", []api.Branch{{}}, signed(0, 8), plain, api.OK},
		{"any tag, signed by 0", []api.Branch{{}}, signed(0, 0), plain, api.OK},
		{"the tag of another branch", []api.Branch{{Tag: 7}, {Tag: 8}}, signed(1, 7), plain, api.ErrLock},
		{"a later branch", []api.Branch{{Tag: 7}, {Tag: 8}}, signed(1, 8), plain, api.OK},
		{"no such branch", []api.Branch{{}, {}}, signed(2, 7), plain, api.ErrLock},
		{"a branch that no lock has", []api.Branch{{}, {}, {}}, signed(3, 7), plain, api.ErrLock},
		{"no branches", nil, signed(0, 7), plain, api.ErrLock},
		{"four branches", []api.Branch{{}, {}, {}, {}}, signed(0, 7), plain, api.ErrLock},
		{"no Witness", []api.Branch{{}}, nil, plain, api.ErrLock},
		{"an empty text", []api.Branch{{}}, []string{""}, plain, api.ErrLock},
		{"a text too many", []api.Branch{{}}, append(signed(0, 7), ""), plain, api.ErrLock},
		{"as many as the Delay", []api.Branch{{Delay: 6}}, signed(0, 7), 6, api.OK},
		{"more than the Delay", []api.Branch{{Delay: 6}}, signed(0, 7), 7, api.OK},
		{"less than the Delay", []api.Branch{{Delay: 6}}, signed(0, 7), 5, api.ErrEarly},
		{"a Delay for one who doesn't wait", []api.Branch{{Delay: 6}}, signed(0, 7), plain, api.ErrEarly},
		{"just the Height", []api.Branch{{Height: 20}}, signed(0, 7), plain, api.OK},
		{"below the Height", []api.Branch{{Height: 21}}, signed(0, 7), plain, api.ErrEarly},
		{"just the Height, for a final one", []api.Branch{{Height: 20}}, signed(0, 7), final, api.ErrEarly},
		{"another tag, below the Height", []api.Branch{{Tag: 7, Height: 21}}, signed(0, 8), plain, api.ErrLock},
	} {
		for at := range 4 {
			s := spending(400, 100, 100, 100, 100)
			s.tx.LockTime = 20
			s.coins[at].Coin.Out.Script, s.tx.Ins[at].Witness, s.tx.Ins[at].Sequence = scriptOf(x.lock...), x.witness, x.sequence
			want := paid(0)
			if x.want != api.OK {
				want = faultAt(at, x.want)
			}
			t.Run(x.name, func(t *testing.T) { s.putable(t).want(t, want) })
		}
	}
}

// TestVersion: below 2 no In waits, so that no Delay opens, and none has to.
func TestVersion(t *testing.T) {
	for _, version := range []uint32{0, 1, 2, 3, math.MaxUint32} {
		delayed, plainly := spending(0, 100), spending(0, 100)
		delayed.coins[0].Coin.Out.Script = scriptOf(api.Branch{Delay: 20})
		for _, s := range []*scene{&delayed, &plainly} {
			s.tx.Version, s.tx.Ins[0].Sequence = version, 20
		}
		if version < 2 {
			delayed.want(t, faultAt(0, api.ErrEarly))
			plainly.height = 10
			plainly.want(t, paid(100))
			continue
		}
		for _, s := range []scene{delayed, plainly} {
			s.want(t, paid(100))
			s.height = 29
			s.want(t, faultAt(0, api.ErrEarly))
		}
	}
}

// TestCoinHeights: in the coin's own block, and in none ahead of it.
func TestCoinHeights(t *testing.T) {
	for _, coin := range []int{0, 1, 2, 29, 30, 31, 999999, top} {
		for _, height := range heights() {
			s := spending(60, 100)
			s.tx.Ins[0].Sequence, s.coins[0].Coin.Height, s.height = final, coin, height
			want := paid(40)
			if height < coin || height > top {
				want = faultAt(0, api.ErrEarly)
			}
			s.putable(t).want(t, want)
		}
	}
	// Of heights that are none, only a view that isn't a set has coins.
	for _, coin := range []int{math.MinInt, -1, top + 1, math.MaxInt} {
		for _, height := range heights() {
			s := spending(60, 100)
			s.tx.Ins[0].Sequence, s.coins[0].Coin.Height, s.height = final, coin, height
			s.want(t, faultAt(0, api.ErrEarly))
		}
	}
}

// TestDelay: one block too early, and just ripe, of the first In and of later ones.
func TestDelay(t *testing.T) {
	for at := range 3 {
		for _, delay := range []uint16{1, 2, 5, 144, 65535} {
			for _, coin := range []int{1, 2, 10, 700, top - 65536, top - 65535} {
				s := spending(0, 100, 100, 100)
				for i := range s.coins {
					s.coins[i].Coin.Height, s.tx.Ins[i].Sequence = 0, final
				}
				s.coins[at].Coin = api.Coin{Out: api.Out{Value: 100, Script: scriptOf(api.Branch{Tag: 7, Delay: delay})}, Height: coin}
				s.tx.Ins[at].Sequence = uint32(delay)
				for _, x := range []struct {
					behind int
					want   answer
				}{{-1, faultAt(at, api.ErrEarly)}, {0, paid(300)}, {1, paid(300)}} {
					s.height = coin + int(delay) + x.behind
					if s.height > top { // no block is so high, for none of the Ins
						x.want = faultAt(0, api.ErrEarly)
					}
					s.want(t, x.want)
				}
			}
		}
	}
}

// TestDelayOutOfReach: of a coin for which the wait ends behind MaxHeight.
func TestDelayOutOfReach(t *testing.T) {
	s := spending(0, 100)
	s.coins[0].Coin.Out.Script, s.tx.Ins[0].Sequence = scriptOf(api.Branch{Delay: 65535}), 65535
	s.coins[0].Coin.Height = top - 65534
	for _, height := range heights() {
		s.height = height
		s.want(t, faultAt(0, api.ErrEarly))
	}
}

// TestHeight: the branch's Height asks for a LockTime, and that for a height above it; then the first In is told, for it holds for all.
func TestHeight(t *testing.T) {
	for at := range 3 {
		for _, n := range []uint32{1, 2, 30, 65536, top - 1} {
			s := spending(0, 100, 100, 100)
			for i := range s.coins {
				s.coins[i].Coin.Height, s.tx.Ins[i].Sequence = 0, final
			}
			s.coins[at].Coin.Out.Script, s.tx.Ins[at].Sequence = scriptOf(api.Branch{Tag: 7, Height: n}), plain
			s.tx.LockTime = n
			for _, x := range []struct {
				behind int
				want   answer
			}{{-1, faultAt(0, api.ErrEarly)}, {0, faultAt(0, api.ErrEarly)}, {1, paid(300)}} {
				s.height = int(n) + x.behind
				s.want(t, x.want)
			}
			// By a LockTime that is one less it isn't open, in whatever height.
			s.tx.LockTime, s.height = n-1, top
			s.want(t, faultAt(at, api.ErrEarly))
		}
	}
}

// TestHeightOutOfReach: at MaxHeight there is no block above it.
func TestHeightOutOfReach(t *testing.T) {
	s := spending(0, 100)
	s.coins[0].Coin.Out.Script, s.tx.LockTime = scriptOf(api.Branch{Height: top}), top
	for _, height := range heights() {
		s.height = height
		s.want(t, faultAt(0, api.ErrEarly))
	}
}

// TestHeights: an In that neither waits nor is final is ripe from height 1 on, a final one from 0 on.
func TestHeights(t *testing.T) {
	for _, height := range heights() {
		for _, sequence := range []uint32{plain, final} {
			s := spending(100, 70, 80)
			s.height = height
			for i := range s.coins {
				s.coins[i].Coin.Height, s.tx.Ins[i].Sequence = 0, sequence
			}
			want := paid(50)
			if height < 0 || height > top || height == 0 && sequence == plain {
				want = faultAt(0, api.ErrEarly)
			}
			s.putable(t).want(t, want)
		}
	}
}

// TestFirstUnripe: each In is asked of its own coin's Height; of several the first is told.
func TestFirstUnripe(t *testing.T) {
	coinHeights := []int{5, 40, 20, 30, 10}
	for _, x := range []struct{ height, at int }{{4, 0}, {5, 1}, {10, 1}, {39, 1}} {
		s := spending(0, 1, 2, 3, 4, 5)
		for i, n := range coinHeights {
			s.coins[i].Coin.Height = n
		}
		s.height = x.height
		s.want(t, faultAt(x.at, api.ErrEarly))
	}
	rising := slices.Sorted(slices.Values(coinHeights))
	for height := range 50 {
		s := spending(0, 1, 2, 3, 4, 5)
		want := paid(15)
		for i, n := range slices.Backward(rising) {
			s.coins[i].Coin.Height = n
			if height < n {
				want = faultAt(i, api.ErrEarly)
			}
		}
		s.height = height
		s.want(t, want)
	}
}

// TestLaterHeights: P11.2, of what has a fee in some height.
func TestLaterHeights(t *testing.T) {
	for _, s := range []scene{mixed(), spending(400, 500), spending(500, 500), spending(0, 1, 2, 3)} {
		fees := map[int]int{}
		for height := range 200 {
			s.height = height
			if fee, ok := feeOf(t, s); ok {
				fees[fee]++
			} else if len(fees) > 0 {
				t.Errorf("P11.2: there was a fee, but there is none in %d: %s", height, told(s.tx))
			}
		}
		for _, height := range []int{65536, 500000, top - 1, top} {
			s.height = height
			if fee, ok := feeOf(t, s); !ok || fees[fee] == 0 {
				t.Errorf("P11.2: the fee in %d is %d, %v: %s", height, fee, ok, told(s.tx))
			}
		}
		if len(fees) != 1 {
			t.Errorf("P11.2: the fees in later heights are %v: %s", fees, told(s.tx))
		}
	}
}
