package lock_test

import (
	"math"
	"math/rand"
	"slices"
	"testing"

	"kedge/api"
	"kedge/lock"
)

// ripeOf by the chapter's words, of an In that is there.
func ripeOf(u api.Tx, in, coin, height int) bool {
	if coin < 0 || coin > 1000000 || height < 0 || height > 1000000 {
		return false
	}
	others := 0
	for _, i := range u.Ins {
		if i.Sequence != final {
			others++
		}
	}
	return height-coin >= waitsOf(u.Version, u.Ins[in].Sequence) && (int64(u.LockTime) < int64(height) || others == 0)
}

func TestRipeWrittenOut(t *testing.T) {
	for _, x := range []struct {
		version, sequence, lockTime uint32
		coin, height                int
		want                        bool
	}{
		{2, 3, 0, 10, 13, true}, {2, 3, 0, 10, 12, false}, {2, 3, 0, 10, 14, true}, {1, 3, 0, 10, 10, true}, {0, 3, 0, 10, 9, false},
		{2, 0, 9, 1, 9, false}, {2, 0, 9, 1, 8, false}, {2, 0, 9, 1, 10, true}, {2, final, 9, 1, 9, true}, {2, final - 1, 9, 1, 9, false}, {2, final - 2, 9, 1, 10, true},
		{2, 65536 + 3, 0, 10, 12, false}, {2, 65536 + 3, 0, 10, 13, true}, {2, 1<<31 + 3, 0, 10, 10, true}, {2, 1<<31 - 1, 0, 10, 10 + 65534, false}, {2, 1<<31 - 1, 0, 10, 10 + 65535, true},
		{2, 65535, 0, 1000000 - 65535, 1000000, true}, {2, 65535, 0, 1000000 - 65534, 1000000, false},
		{2, final, 0, 0, 0, true}, {2, 0, 0, 0, 0, false}, {2, 0, 0, 0, 1, true}, {2, final, math.MaxUint32, 0, 0, true}, {2, 0, math.MaxUint32, 0, 1000000, false},
		{2, 0, 999999, 1000000, 1000000, true}, {2, 0, 1000000, 1000000, 1000000, false}, {2, 1, 0, 1000000, 1000000, false}, {1, 1, 0, 1000000, 1000000, true},
	} {
		wantRipe(t, spend(x.version, x.sequence, x.lockTime, nil), 0, x.coin, x.height, x.want)
	}
}

// TestRipePlaces: at each In by itself; elsewhere false.
func TestRipePlaces(t *testing.T) {
	u := with(3, 0, 4, final)
	for in, want := range []bool{true, true, false, true} {
		wantRipe(t, u, in, 10, 13, want)
	}
	for _, n := range []int{0, 1, 2, 256} {
		for _, in := range farPlaces(n) {
			if lock.Ripe(with(make([]uint32, n)...), in, 10, 20) {
				t.Errorf("P8.4: Ripe at %d of %d Ins", in, n)
			}
		}
	}
	wantRipe(t, api.Tx{}, 0, 10, 20, false)
	wantRipe(t, api.Tx{Ins: []api.In{}}, 0, 0, 0, false)
}

// TestRipeEdges: coin and height at and beyond their limits.
func TestRipeEdges(t *testing.T) {
	edges := []int{math.MinInt, math.MinInt + 1, -1 << 32, -65535, -2, -1, 0, 1, 2, 65535, 999999, 1000000, 1000001, 1000002, 1 << 31, 1 << 32, 1<<32 + 5, math.MaxInt - 65535, math.MaxInt - 1, math.MaxInt}
	for _, u := range []api.Tx{spend(2, 0, 0, nil), spend(2, final, 0, nil), spend(1, 3, 0, nil), spend(2, 1, 0, nil), spend(2, 65535, 0, nil)} {
		for _, coin := range edges {
			for _, height := range edges {
				wantRipe(t, u, 0, coin, height, ripeOf(u, 0, coin, height))
			}
		}
	}
	for _, coin := range edges {
		if coin >= 0 && coin <= 1000000 {
			wantRipe(t, spend(2, final, 0, nil), 0, coin, 1000000, true)
			wantRipe(t, spend(2, final, 0, nil), 0, 0, coin, true)
		} else {
			wantRipe(t, spend(2, final, 0, nil), 0, coin, 1000000, false)
			wantRipe(t, spend(2, final, 0, nil), 0, 0, coin, false)
		}
	}
}

// TestRipeWaits: a height one less than, equal to and one more than coin and what the In waits.
func TestRipeWaits(t *testing.T) {
	for _, version := range versions() {
		for _, sequence := range sequences() {
			u := spend(version, sequence, 0, nil)
			for _, coin := range []int{1, 2, 700, 500000, 934463, 934464, 934465, 934466} {
				least := coin + waitsOf(version, sequence)
				wantRipe(t, u, 0, coin, least, least <= 1000000)
				wantRipe(t, u, 0, coin, least-1, false)
				wantRipe(t, u, 0, coin, least+1, least+1 <= 1000000)
			}
		}
	}
}

// TestRipeLockTimes: one less than, equal to and above height, with all, some and none of the Sequences at 2^32 - 1.
func TestRipeLockTimes(t *testing.T) {
	for _, height := range []int{1, 2, 100, 65536, 999999, 1000000} {
		n := uint32(height)
		for _, lockTime := range []uint32{0, n - 1, n, n + 1, 1000001, 500000000, 1 << 31, 1<<31 + n, math.MaxUint32} {
			for _, x := range []struct {
				all bool
				l   []uint32
			}{
				{true, []uint32{final}}, {true, []uint32{final, final}}, {true, []uint32{final, final, final}}, {true, slices.Repeat([]uint32{final}, 256)},
				{false, []uint32{0, final, final}}, {false, []uint32{final, 0, final}}, {false, []uint32{final, final, 0}}, {false, append(slices.Repeat([]uint32{final}, 255), final-1)},
				{false, []uint32{0}}, {false, []uint32{final - 1}}, {false, []uint32{0, 0, 0}}, {false, []uint32{final - 1, final - 2, 1 << 31}},
			} {
				u := with(x.l...)
				u.LockTime = lockTime
				for in := range min(len(u.Ins), 3) {
					wantRipe(t, u, in, 1, height, x.all || lockTime < n)
				}
			}
		}
	}
}

// TestRipeMemory: nothing behind a list's length is read, nothing is changed.
func TestRipeMemory(t *testing.T) {
	u := with(final, final, 0)
	u.LockTime = 50
	before := told(u)
	wantRipe(t, u, 0, 1, 20, false)
	cut := u
	cut.Ins = u.Ins[:2]
	wantRipe(t, cut, 0, 1, 20, true)
	wantRipe(t, cut, 2, 1, 60, false)
	if told(u) != before {
		t.Errorf("P8.4: Ripe left %s of %s", told(u), before)
	}
}

func TestRipeRandom(t *testing.T) {
	r := rand.New(rand.NewSource(84))
	seen := 0
	for range 20000 {
		u, in := randomSpend(r, 0, 1)
		coin, height := r.Intn(8)-1, r.Intn(14)-1
		want := ripeOf(u, in, coin, height)
		wantRipe(t, u, in, coin, height, want)
		if want {
			seen++
		}
	}
	if seen < 2000 || seen > 18000 {
		t.Errorf("P8.4: ripe %d times", seen)
	}
}

// TestOpenMeans: what Open tells OK of is signed as the lock says, and ripe in no earlier block.
func TestOpenMeans(t *testing.T) {
	r := rand.New(rand.NewSource(85))
	opened, ripe, early := 0, 0, 0
	for range 40000 {
		l := randomLock(r)
		u, in := randomSpend(r, r.Intn(3), uint16(r.Intn(3)))
		if lock.Open(scriptOf(l...), u, in) != api.OK {
			continue
		}
		opened++
		branch, tag, e := lock.Signed(u.Ins[in].Witness)
		if e != api.OK || branch >= len(l) || l[branch].Tag != 0 && l[branch].Tag != tag {
			t.Fatalf("P8.5: %v opens to branch %d, tag %d, %d", l, branch, tag, e)
		}
		b, coin, height := l[branch], r.Intn(8), r.Intn(14)
		if height < coin+int(b.Delay) || height < int(b.Height) {
			early++
			if lock.Ripe(u, in, coin, height) {
				t.Errorf("P8.5: %v of coin %d opens at %d: %s", b, coin, height, told(u))
			}
		} else if lock.Ripe(u, in, coin, height) {
			ripe++
		}
	}
	if opened < 4000 || ripe < 500 || early < 500 {
		t.Errorf("P8.5: %d opened, %d ripe, %d early", opened, ripe, early)
	}
}

// TestOpenInNoEarlierBlock: a branch with a Delay or a Height, its In as Sequence says, at every height about the first one.
func TestOpenInNoEarlierBlock(t *testing.T) {
	for _, delay := range []uint16{0, 1, 12} {
		for _, height := range []uint32{0, 1, 19, 20, 40} {
			b := api.Branch{Tag: 7, Delay: delay, Height: height}
			for lockTime := range uint32(45) {
				for _, sequence := range []uint32{0, 1, 11, 12, 13, lock.Sequence(b), final} {
					u := with(sequence, final)
					u.LockTime = lockTime
					if lock.Open(scriptOf(b), u, 0) != api.OK {
						continue
					}
					for at := range max(10+int(delay), int(height)) {
						if lock.Ripe(u, 0, 10, at) {
							t.Errorf("P8.5: %v of coin 10 opens at %d: %s", b, at, told(u))
						}
					}
				}
			}
		}
	}
}
