package ident_test

import (
	"fmt"
	"math/rand"
	"strings"
	"testing"

	"kedge/api"
	"kedge/ident"
	"kedge/tx"
)

func TestExample(t *testing.T) {
	id := bytesOf(t, "3b88b91cb79302d74b6640358a3fefee 3a5d42c8e626fbdc6cc3a047368cc3cd")
	wantTraits(t, "the example", tx.Grant(0, []api.Out{{}}), traits{id, id, 240, 60})
}

// TestWritten: answers that are written out, of Witnesses of which none, some or all are empty.
func TestWritten(t *testing.T) {
	id := "6edee43186b663c8bd75ffbe6c19a0f2 5b3a2fa4abc700938a081b4341ab243d"
	for _, x := range []struct {
		first, second []string
		whole         string
		weight, size  int
	}{
		{nil, nil, id, 452, 113},
		{[]string{}, []string{}, id, 452, 113},
		{[]string{"w"}, nil, "ea9a2ae5a0d4e1bdfa9c7892b5164a0a 42f2be3a178c59be63523a6f43073487", 458, 115},
		{nil, []string{"w"}, "4488f4e540ec4988924c265a63678900 d47c8013847a49a3f54a8b14e83de478", 458, 115},
		{[]string{""}, nil, "1700ece24b4870a6959b87b5c2880695 be3f80ed00cc97f9d87885f884873738", 457, 115},
		{nil, []string{"", ""}, "bcd984f90c41ff5c3a973f65f9194718 20f1272f4e9791f7b9ed8089da01eae4", 458, 115},
		{[]string{"ww"}, nil, "389d559f3db18ceed29d05617eae1308 b2b9eccee4176fe727a164fd7fb8d9e2", 459, 115},
		{nil, []string{"www"}, "624e8a8c218f444508cbde555e42e301 8aac7eee0fd6f737603d9c84c5b38c8c", 460, 115},
		{[]string{"\x00\xff", "", "v"}, []string{"u", "", "", "\x01"}, "b15834bd2889051e0e9b1508422ad467 3fa275cc1990a9a2ea9c41513d3e9712", 468, 117},
	} {
		u := api.Tx{
			Version: 0xaabbccdd,
			Ins: []api.In{
				{From: api.Point{ID: strings.Repeat("a", 32), Index: 1}, Sequence: 0x01020304, Witness: x.first},
				{From: api.Point{ID: strings.Repeat("b", 32), Index: 0xfffffffe}, Witness: x.second},
			},
			Outs:     []api.Out{{Value: 2100000000000000 - 258, Script: "xyz"}, {Value: 258}},
			LockTime: 0x11223344,
		}
		name := fmt.Sprintf("one with the Witnesses %q and %q", x.first, x.second)
		wantTraits(t, name, u, traits{bytesOf(t, id), bytesOf(t, x.whole), x.weight, x.size})
	}
}

func TestOrdinary(t *testing.T) {
	for _, x := range []struct {
		name string
		u    api.Tx
	}{
		{"a rich one", rich()},
		{"a rich one without Witnesses", stripped(rich())},
		{"a plain one", plain(2, 3)},
		{"a grant", tx.Grant(1000000, []api.Out{{Value: 500, Script: "lock"}, {Value: 2}})},
		{"252 Ins and 253 Outs", plain(252, 253)},
		{"253 Ins and 252 Outs", plain(253, 252)},
	} {
		wantTraits(t, x.name, x.u, traitsOf(x.u))
	}
}

// TestRemainders: a size is rounded up from each of 0, 1, 2 and 3 above a multiple of 4.
func TestRemainders(t *testing.T) {
	bare := 4 + 1 + 41 + 1 + 8 + 1 + 6 + 4
	seen := [4]int{}
	for length := range 81 {
		u := plain(1, 1)
		u.Ins[0].Witness = []string{strings.Repeat("w", length)}
		weight := 3*bare + bare + 2 + 1 + 1 + length
		size := weight / 4
		if weight%4 != 0 {
			size++
		}
		want := traitsOf(u)
		if want.weight != weight || want.size != size {
			t.Fatalf("the weight is %d and the size %d, not %d and %d", want.weight, want.size, weight, size)
		}
		wantTraits(t, fmt.Sprintf("one with a text of %d bytes", length), u, want)
		seen[weight%4]++
	}
	for above, n := range seen {
		if n < 20 {
			t.Errorf("P7.1: a weight of %d above a multiple of 4 was tried %d times", above, n)
		}
	}
}

// TestGreatest: everything at its limit at once.
func TestGreatest(t *testing.T) {
	u := greatest()
	want := traitsOf(u)
	bare := 4 + 3 + 256*41 + 3 + 256*49 + 4
	full := bare + 2 + 256*(1+4*81)
	if want.weight != 3*bare+full || want.weight != 175418 || want.size != 43855 {
		t.Fatalf("the greatest one has the weight %d and the size %d", want.weight, want.size)
	}
	wantTraits(t, "the greatest one", u, want)
	wantPays(t, "the greatest one", u, 256, api.Point{}, api.ErrArg)
	bared := stripped(u)
	wantTraits(t, "the greatest one without Witnesses", bared, traits{want.id, want.id, 92216, 23054})
}

// TestEveryPartCounts: whatever part is another one, so is the id, but of the Witnesses.
func TestEveryPartCounts(t *testing.T) {
	own := traitsOf(rich())
	for _, x := range []struct {
		name   string
		change func(u *api.Tx)
	}{
		{"Version", func(u *api.Tx) { u.Version++ }},
		{"ID", func(u *api.Tx) { u.Ins[2].From.ID = strings.Repeat("i", 32) }},
		{"Index", func(u *api.Tx) { u.Ins[1].From.Index += 256 }},
		{"Sequence", func(u *api.Tx) { u.Ins[2].Sequence-- }},
		{"order of Ins", func(u *api.Tx) { u.Ins[0], u.Ins[1] = u.Ins[1], u.Ins[0] }},
		{"count of Ins", func(u *api.Tx) { u.Ins = u.Ins[:2] }},
		{"Value", func(u *api.Tx) { u.Outs[1].Value++ }},
		{"Script", func(u *api.Tx) { u.Outs[2].Script += "\x00" }},
		{"order of Outs", func(u *api.Tx) { u.Outs[0], u.Outs[2] = u.Outs[2], u.Outs[0] }},
		{"count of Outs", func(u *api.Tx) { u.Outs = u.Outs[:2] }},
		{"LockTime", func(u *api.Tx) { u.LockTime++ }},
	} {
		u := rich()
		x.change(&u)
		wantTraits(t, "one with another "+x.name, u, traitsOf(u))
		id, _ := ident.ID(u)
		whole, _ := ident.Whole(u)
		if id == own.id || whole == own.whole {
			t.Errorf("P7.1: with another %s the id is %x, the whole id %x, as before", x.name, id, whole)
		}
	}
}

func TestRandom(t *testing.T) {
	r := rand.New(rand.NewSource(7))
	for range 400 {
		u := random(r)
		wantTraits(t, told(u), u, traitsOf(u))
		wantPays(t, told(u), u, len(u.Outs), api.Point{}, api.ErrArg)
		wantPays(t, told(u), u, -1-r.Intn(300), api.Point{}, api.ErrArg)
	}
}

// random: a transaction that may be, mostly a small one.
func random(r *rand.Rand) api.Tx {
	text := func(n int) string {
		b := make([]byte, n)
		r.Read(b)
		return string(b)
	}
	u := api.Tx{Version: r.Uint32(), LockTime: r.Uint32()}
	for range 1 + r.Intn(1+r.Intn(12)) {
		in := api.In{From: api.Point{ID: text(32), Index: r.Uint32()}, Sequence: r.Uint32()}
		for range r.Intn(1 + r.Intn(5)) {
			in.Witness = append(in.Witness, text(r.Intn(81)))
		}
		u.Ins = append(u.Ins, in)
	}
	for range 1 + r.Intn(1+r.Intn(12)) {
		u.Outs = append(u.Outs, api.Out{Value: r.Intn(1 << uint(r.Intn(47))), Script: text(r.Intn(41))})
	}
	return u
}
