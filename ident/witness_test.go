package ident_test

import (
	"fmt"
	"math/rand"
	"testing"

	"kedge/api"
	"kedge/ident"
)

// asked: what the calls answer; all of them must be OK.
func asked(t *testing.T, u api.Tx) traits {
	t.Helper()
	id, e := ident.ID(u)
	whole, f := ident.Whole(u)
	weight, g := ident.Weight(u)
	size, h := ident.Size(u)
	if e != api.OK || f != api.OK || g != api.OK || h != api.OK {
		t.Fatalf("P7.1: %d, %d, %d, %d of %s", e, f, g, h, told(u))
	}
	return traits{id, whole, weight, size}
}

// wantBare: a transaction without Witnesses has one id, and a weight of four times its bytes.
func wantBare(t *testing.T, u api.Tx, bytes int) {
	t.Helper()
	a := asked(t, u)
	if a.id != a.whole {
		t.Errorf("P7.3: without Witnesses the id is %x, the whole id %x", a.id, a.whole)
	}
	if a.weight != 4*bytes || a.size != bytes {
		t.Errorf("P7.3: without Witnesses, with %d bytes, the weight is %d, the size %d", bytes, a.weight, a.size)
	}
}

func TestWithoutWitnesses(t *testing.T) {
	wantBare(t, plain(1, 1), 4+1+41+1+8+1+6+4)
	wantBare(t, plain(2, 3), 4+1+2*41+1+3*(8+1+6)+4)
	wantBare(t, plain(253, 252), 4+3+253*41+1+252*(8+1+6)+4)
	wantBare(t, plain(252, 253), 4+1+252*41+3+253*(8+1+6)+4)
	wantBare(t, stripped(greatest()), 23054)
	empty := plain(2, 1)
	empty.Ins[0].Witness, empty.Ins[1].Witness = []string{}, make([]string, 0, 4)
	wantBare(t, empty, 4+1+2*41+1+(8+1+6)+4)
	r := rand.New(rand.NewSource(73))
	for range 200 {
		u := stripped(random(r))
		wantBare(t, u, len(written(u, false)))
	}
}

// TestOnlyWitnessesDiffer: they have the same id, and outputs, but each a whole id of its own.
func TestOnlyWitnessesDiffer(t *testing.T) {
	bare := asked(t, stripped(rich()))
	seen := map[string]string{bare.whole: "no Witness"}
	for _, x := range []struct {
		first, second, third []string
		more                 int // how much they add to the weight
	}{
		{[]string{"w"}, nil, nil, 2 + 3 + 1 + 1},
		{nil, []string{"w"}, nil, 2 + 1 + 3 + 1},
		{nil, nil, []string{"w"}, 2 + 1 + 1 + 3},
		{[]string{"W"}, nil, nil, 2 + 3 + 1 + 1},
		{[]string{""}, nil, nil, 2 + 2 + 1 + 1},
		{[]string{"", ""}, nil, nil, 2 + 3 + 1 + 1},
		{[]string{""}, []string{""}, []string{""}, 2 + 2 + 2 + 2},
		{[]string{"one", "two"}, nil, []string{"", "three", "four", "five"}, 2 + 9 + 1 + 18},
		{[]string{"two", "one"}, nil, []string{"", "three", "four", "five"}, 2 + 9 + 1 + 18},
		{[]string{"onetwo"}, nil, []string{"", "three", "four", "five"}, 2 + 8 + 1 + 18},
	} {
		u := rich()
		u.Ins[0].Witness, u.Ins[1].Witness, u.Ins[2].Witness = x.first, x.second, x.third
		name := fmt.Sprintf("%q, %q and %q", x.first, x.second, x.third)
		a := asked(t, u)
		if a.id != bare.id {
			t.Errorf("P7.3: with the Witnesses %s the id is %x, without %x", name, a.id, bare.id)
		}
		if a.weight != bare.weight+x.more {
			t.Errorf("P7.1: with the Witnesses %s the weight is %d, not %d more than %d", name, a.weight, x.more, bare.weight)
		}
		if other, ok := seen[a.whole]; ok {
			t.Errorf("P7.3: with the Witnesses %s and %s the whole id is the same", name, other)
		}
		seen[a.whole] = name
		for i := range u.Outs {
			wantPays(t, name, u, i, api.Point{ID: bare.id, Index: uint32(i)}, api.OK)
		}
	}
}
