package dust_test

import (
	"math/rand"
	"slices"
	"testing"

	"kedge/api"
	"kedge/dust"
)

func wantFirst(t *testing.T, u api.Tx, place int, found bool) {
	t.Helper()
	if i, ok := dust.First(u); i != place || ok != found {
		t.Errorf("P9.2: First of %d Outs is %d, %v, not %d, %v", len(u.Outs), i, ok, place, found)
	}
}

// pays: a transaction that has something beside its Outs too.
func pays(l ...api.Out) api.Tx {
	in := api.In{From: api.Point{ID: "an id", Index: 3}, Sequence: 5, Witness: []string{"w"}}
	return api.Tx{Version: 2, Ins: []api.In{in}, Outs: l, LockTime: 7}
}

func TestFirstOfNone(t *testing.T) {
	wantFirst(t, api.Tx{}, 0, false)
	wantFirst(t, api.Tx{Outs: []api.Out{}}, 0, false)
	wantFirst(t, pays(), 0, false)
}

func TestFirstOfOne(t *testing.T) {
	for _, n := range good() {
		for _, value := range append(values(), leastOf(n)-1, leastOf(n), leastOf(n)+1) {
			wantFirst(t, pays(out(value, n)), 0, value < leastOf(n))
		}
	}
}

func TestFirstOfSeveral(t *testing.T) {
	rich, edge, poor, nothing, long := out(500, 9), out(255, 9), out(254, 9), api.Out{}, out(0, 41)
	for _, x := range []struct {
		l     []api.Out
		place int
		found bool
	}{
		{[]api.Out{poor, rich, edge}, 0, true},
		{[]api.Out{rich, poor, edge}, 1, true},
		{[]api.Out{rich, edge, poor}, 2, true},
		{[]api.Out{rich, edge, rich}, 0, false},
		{[]api.Out{poor, nothing}, 0, true},
		{[]api.Out{poor, rich, nothing}, 0, true},
		{[]api.Out{rich, nothing, poor, rich}, 1, true},
		{[]api.Out{edge, edge, poor, nothing}, 2, true},
		{[]api.Out{long}, 0, false},
		{[]api.Out{long, long, long}, 0, false},
		{[]api.Out{long, rich, long}, 0, false},
		{[]api.Out{long, poor}, 1, true},
		{[]api.Out{poor, long}, 0, true},
		{[]api.Out{rich, long, rich, out(-1, 253), nothing, poor}, 4, true},
		// The same Value is dust with one Script, and isn't with another.
		{[]api.Out{out(300, 0), out(300, 24), out(300, 25), out(300, 40)}, 2, true},
		{[]api.Out{out(300, 24), out(300, 0), out(300, 41)}, 0, false},
		{[]api.Out{out(300, 40), out(300, 0)}, 0, true},
	} {
		wantFirst(t, pays(x.l...), x.place, x.found)
	}
}

// TestFirstPlaces: dust at each place of lists of up to more Outs than a transaction may have.
func TestFirstPlaces(t *testing.T) {
	for _, count := range []int{1, 2, 3, 7, 255, 256, 257, 600} {
		l := slices.Repeat([]api.Out{out(228, 0)}, count)
		wantFirst(t, pays(l...), 0, false)
		for at := range count {
			l[at].Value = 227
			wantFirst(t, pays(l...), at, true)
			l[count-1].Value = 0
			wantFirst(t, pays(l...), at, true)
			l[at].Value, l[count-1].Value = 228, 228
		}
	}
}

func TestFirstRandom(t *testing.T) {
	r := rand.New(rand.NewSource(9))
	none, later := 0, 0
	for range 20000 {
		l, place, found := make([]api.Out, r.Intn(8)), 0, false
		for i := range l {
			n := r.Intn(46)
			l[i] = out(leastOf(n)-2+r.Intn(10), n)
			if !found && n <= 40 && l[i].Value < leastOf(n) {
				place, found = i, true
			}
		}
		wantFirst(t, pays(l...), place, found)
		if !found {
			none++
		} else if place > 0 {
			later++
		}
	}
	if none < 2000 || later < 2000 {
		t.Errorf("P9.2: %d times none, %d times behind the first place", none, later)
	}
}

// TestFirstMemory: what lies behind the list's length is not read or written, what is handed in is not changed or kept.
func TestFirstMemory(t *testing.T) {
	whole := []api.Out{out(500, 9), out(255, 9), out(254, 9), {}, out(7, 41)}
	before := slices.Clone(whole)
	for n := range len(whole) + 1 {
		if n <= 2 {
			wantFirst(t, pays(whole[:n]...), 0, false)
		} else {
			wantFirst(t, pays(whole[:n]...), 2, true)
		}
	}
	wantFirst(t, pays(whole[3:3]...), 0, false)
	if !slices.Equal(whole, before) {
		t.Errorf("P9.2: First left %v of %v", whole, before)
	}
	u := pays(whole...)
	whole[2].Value = 255
	wantFirst(t, u, 3, true)
	whole[0].Value = 0
	wantFirst(t, u, 0, true)
}
