package ident_test

import (
	"fmt"
	"math"
	"strings"
	"testing"

	"kedge/api"
	"kedge/ident"
	"kedge/tx"
)

// indexes that an int may be, most of which no Out has.
func indexes(outs int) []int {
	return []int{0, outs - 1, outs, outs + 1, -1, -2, 255, 256, 257, math.MaxUint16, math.MaxUint16 + 1,
		math.MaxInt32, math.MaxInt32 + 1, math.MinInt32, math.MinInt32 - 1, math.MaxUint32, math.MaxUint32 + 1, -math.MaxUint32 - 1,
		math.MaxInt - 1, math.MaxInt, math.MinInt, math.MinInt + 1}
}

// wantRefused: all five calls answer layer 5's error, and zero values beside it.
func wantRefused(t *testing.T, name string, u api.Tx, want api.Errno) {
	t.Helper()
	if e := tx.Check(u); e != want {
		t.Fatalf("Check of %s is %d, not %d", name, e, want)
	}
	if id, e := ident.ID(u); id != "" || e != want {
		t.Errorf("P7.1: ID of %s is %x, %d, not error %d alone", name, id, e, want)
	}
	if id, e := ident.Whole(u); id != "" || e != want {
		t.Errorf("P7.1: Whole of %s is %x, %d, not error %d alone", name, id, e, want)
	}
	if n, e := ident.Weight(u); n != 0 || e != want {
		t.Errorf("P7.1: Weight of %s is %d, %d, not error %d alone", name, n, e, want)
	}
	if n, e := ident.Size(u); n != 0 || e != want {
		t.Errorf("P7.1: Size of %s is %d, %d, not error %d alone", name, n, e, want)
	}
	for _, index := range indexes(len(u.Outs)) {
		wantPays(t, name, u, index, api.Point{}, want)
	}
}

// TestRefused: each error of Check, in each call; at an index that it has, and at others (layer 5's error goes ahead).
func TestRefused(t *testing.T) {
	change := func(f func(u *api.Tx)) api.Tx {
		u := rich()
		f(&u)
		return u
	}
	for _, x := range []struct {
		name string
		u    api.Tx
		want api.Errno
	}{
		{"none", api.Tx{}, api.ErrCount},
		{"one with empty lists", api.Tx{Ins: []api.In{}, Outs: []api.Out{}}, api.ErrCount},
		{"one without Ins", plain(0, 1), api.ErrCount},
		{"one without Outs", plain(1, 0), api.ErrCount},
		{"a grant without Outs", tx.Grant(0, nil), api.ErrCount},
		{"257 Ins", plain(257, 1), api.ErrCount},
		{"257 Outs", plain(1, 257), api.ErrCount},
		{"a Witness of 5 texts", change(func(u *api.Tx) { u.Ins[1].Witness = make([]string, 5) }), api.ErrCount},
		{"a Script of 41 bytes", change(func(u *api.Tx) { u.Outs[2].Script = strings.Repeat("s", 41) }), api.ErrLong},
		{"a text of 81 bytes", change(func(u *api.Tx) { u.Ins[2].Witness[3] = strings.Repeat("w", 81) }), api.ErrLong},
		{"an ID of 31 bytes", change(func(u *api.Tx) { u.Ins[0].From.ID = strings.Repeat("i", 31) }), api.ErrForm},
		{"an ID of 33 bytes", change(func(u *api.Tx) { u.Ins[2].From.ID = strings.Repeat("i", 33) }), api.ErrForm},
		{"an empty ID", change(func(u *api.Tx) { u.Ins[1].From.ID = "" }), api.ErrForm},
		{"the base point among several", change(func(u *api.Tx) { u.Ins[1].From = base }), api.ErrForm},
		{"an output that is spent twice", change(func(u *api.Tx) { u.Ins[2].From = u.Ins[0].From }), api.ErrTwice},
		{"a Value below 0", change(func(u *api.Tx) { u.Outs[1].Value = -1 }), api.ErrRange},
		{"the least Value", change(func(u *api.Tx) { u.Outs[1].Value = math.MinInt }), api.ErrRange},
		{"the greatest Value", change(func(u *api.Tx) { u.Outs[0].Value = math.MaxInt }), api.ErrRange},
		{"a Value above MaxMoney", change(func(u *api.Tx) { u.Outs[1].Value = 2100000000000001 }), api.ErrRange},
		{"Values that are too much together", change(func(u *api.Tx) { u.Outs[1].Value = 2100000000000000 }), api.ErrRange},
		{"5 texts and a long Script", change(func(u *api.Tx) {
			u.Ins[0].Witness, u.Outs[0].Script = make([]string, 5), strings.Repeat("s", 41)
		}), api.ErrCount},
		{"a long text and a short ID", change(func(u *api.Tx) {
			u.Ins[2].Witness[3], u.Ins[0].From.ID = strings.Repeat("w", 81), "short"
		}), api.ErrLong},
		{"a short ID and an output that is spent twice", change(func(u *api.Tx) {
			u.Ins[1].From.ID, u.Ins[2].From = "short", u.Ins[0].From
		}), api.ErrForm},
		{"an output that is spent twice and a Value below 0", change(func(u *api.Tx) {
			u.Ins[2].From, u.Outs[0].Value = u.Ins[0].From, -1
		}), api.ErrTwice},
	} {
		wantRefused(t, x.name, x.u, x.want)
	}
}

// TestPaysIndexes: what has an Out at an index has the point; every other int is ErrArg.
func TestPaysIndexes(t *testing.T) {
	for _, outs := range []int{1, 2, 3, 255, 256} {
		u := plain(2, outs)
		u.Ins[1].Witness = []string{"w"}
		name, id := fmt.Sprintf("one with %d Outs", outs), traitsOf(u).id
		for _, index := range indexes(outs) {
			if index >= 0 && index < outs {
				wantPays(t, name, u, index, api.Point{ID: id, Index: uint32(index)}, api.OK)
			} else {
				wantPays(t, name, u, index, api.Point{}, api.ErrArg)
			}
		}
	}
	grant := tx.Grant(0, []api.Out{{}})
	wantPays(t, "the example", grant, 0, api.Point{ID: traitsOf(grant).id}, api.OK)
	wantPays(t, "the example", grant, 1, api.Point{}, api.ErrArg)
}
