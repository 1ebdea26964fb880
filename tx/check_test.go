package tx_test

import (
	"fmt"
	"math"
	"math/big"
	"math/rand"
	"slices"
	"strings"
	"testing"

	"kedge/api"
	"kedge/tx"
)

func wantCheck(t *testing.T, name string, u api.Tx, want api.Errno) {
	t.Helper()
	if e := tx.Check(u); e != want {
		t.Errorf("P5.1: Check of %s is %d, not %d", name, e, want)
	}
}

func TestCheckOrdinary(t *testing.T) {
	wantCheck(t, "one with something in every part", rich(), api.OK)
	wantCheck(t, "one like others", plain(2, 2), api.OK)
	wantCheck(t, "one without Scripts and Witnesses", api.Tx{Ins: spending(point(0)), Outs: outsWorth(5)}, api.OK)
	for _, n := range []uint32{0, 1, 2, 3, math.MaxUint32} {
		u := rich()
		u.Version, u.LockTime, u.Ins[1].Sequence = n, n, n
		wantCheck(t, fmt.Sprintf("one with Version, LockTime and a Sequence of %d", n), u, api.OK)
	}
}

func TestCheckExamples(t *testing.T) {
	wantCheck(t, "Grant(5, ..) with one Out of 0", tx.Grant(5, outsWorth(0)), api.OK)
	wantCheck(t, "Grant(5, ..) without Outs", tx.Grant(5, nil), api.ErrCount)
	wantCheck(t, "Grant(5, ..) with an empty list of Outs", tx.Grant(5, []api.Out{}), api.ErrCount)
}

func TestCheckCounts(t *testing.T) {
	counts := []int{0, 1, 2, 3, 255, 256, 257, 258, 512, 513, 70000}
	for _, ins := range counts {
		for _, outs := range counts {
			want := api.ErrCount
			if ins >= 1 && ins <= 256 && outs >= 1 && outs <= 256 {
				want = api.OK
			}
			wantCheck(t, fmt.Sprintf("%d Ins and %d Outs", ins, outs), plain(ins, outs), want)
		}
	}
	wantCheck(t, "empty Ins", api.Tx{Ins: []api.In{}, Outs: outsOf(1)}, api.ErrCount)
	wantCheck(t, "empty Outs", api.Tx{Ins: insOf(1), Outs: []api.Out{}}, api.ErrCount)
}

func TestCheckWitnessCounts(t *testing.T) {
	for _, ins := range []int{1, 3, 256} {
		for _, at := range places(ins) {
			for _, texts := range []int{0, 1, 3, 4, 5, 6, 256, 70000} {
				u := plain(ins, 1)
				u.Ins[at].Witness = make([]string, texts)
				want := api.OK
				if texts > 4 {
					want = api.ErrCount
				}
				wantCheck(t, fmt.Sprintf("%d Ins, of which %d has %d texts", ins, at, texts), u, want)
			}
		}
	}
	// The texts of several Witnesses aren't counted together.
	u := plain(256, 1)
	for i := range u.Ins {
		u.Ins[i].Witness = make([]string, 4)
	}
	wantCheck(t, "256 Ins with 4 texts each", u, api.OK)
}

func TestCheckScripts(t *testing.T) {
	for _, outs := range []int{1, 3, 256} {
		for _, at := range places(outs) {
			for _, size := range []int{0, 1, 39, 40, 41, 42, 80, 81, 70000} {
				u := plain(1, outs)
				u.Outs[at].Script = strings.Repeat("s", size)
				want := api.OK
				if size > 40 {
					want = api.ErrLong
				}
				wantCheck(t, fmt.Sprintf("%d Outs, of which %d has a Script of %d bytes", outs, at, size), u, want)
			}
		}
	}
	u := plain(1, 1)
	u.Outs[0].Script = strings.Repeat("é", 20)
	wantCheck(t, "a Script of 40 bytes, 20 letters", u, api.OK)
	u.Outs[0].Script = strings.Repeat("é", 21)
	wantCheck(t, "a Script of 42 bytes, 21 letters", u, api.ErrLong)
}

func TestCheckItems(t *testing.T) {
	for _, ins := range []int{1, 3, 256} {
		for _, at := range places(ins) {
			for texts := 1; texts <= 4; texts++ {
				for item := range texts {
					for _, size := range []int{0, 1, 40, 41, 79, 80, 81, 82, 70000} {
						u := plain(ins, 1)
						u.Ins[at].Witness = make([]string, texts)
						u.Ins[at].Witness[item] = strings.Repeat("w", size)
						want := api.OK
						if size > 80 {
							want = api.ErrLong
						}
						wantCheck(t, fmt.Sprintf("%d Ins, of which %d has %d texts, of which %d has %d bytes", ins, at, texts, item, size), u, want)
					}
				}
			}
		}
	}
	u := plain(1, 1)
	u.Ins[0].Witness = []string{strings.Repeat("é", 40)}
	wantCheck(t, "a text of 80 bytes, 40 letters", u, api.OK)
	u.Ins[0].Witness = []string{strings.Repeat("é", 41)}
	wantCheck(t, "a text of 82 bytes, 41 letters", u, api.ErrLong)
}

// TestCheckFull: everything at its limit at once.
func TestCheckFull(t *testing.T) {
	u := plain(256, 256)
	for i := range u.Ins {
		u.Ins[i].Witness = slices.Repeat([]string{strings.Repeat("\xff", 80)}, 4)
	}
	for i := range u.Outs {
		u.Outs[i] = api.Out{Value: 2100000000000000 / 256, Script: strings.Repeat("\xff", 40)}
	}
	wantCheck(t, "one that is full", u, api.OK)
}

func TestCheckIDs(t *testing.T) {
	for _, ins := range []int{1, 3, 256} {
		for _, at := range places(ins) {
			for _, size := range []int{0, 1, 16, 31, 32, 33, 64, 70000} {
				for _, fill := range []string{"\x00", "x", "\xff"} {
					u := plain(ins, 1)
					u.Ins[at].From.ID = strings.Repeat(fill, size)
					want := api.OK
					if size != 32 {
						want = api.ErrForm
					}
					wantCheck(t, fmt.Sprintf("%d Ins, of which %d has an ID of %d bytes %q", ins, at, size, fill), u, want)
				}
			}
		}
	}
	wantCheck(t, "an ID of 32 bytes, 16 letters", api.Tx{Ins: spending(api.Point{ID: strings.Repeat("é", 16)}), Outs: outsOf(1)}, api.OK)
	wantCheck(t, "an ID of 64 bytes, 32 letters", api.Tx{Ins: spending(api.Point{ID: strings.Repeat("é", 32)}), Outs: outsOf(1)}, api.ErrForm)
	for _, size := range []int{0, 31, 33} {
		p := api.Point{ID: strings.Repeat("\x00", size), Index: math.MaxUint32}
		wantCheck(t, fmt.Sprintf("an ID of %d bytes 0 alone, with the base point's Index", size), api.Tx{Ins: spending(p), Outs: outsOf(1)}, api.ErrForm)
	}
}

// nearBase: points that differ from the base point in one byte alone, or in the Index alone.
func nearBase() []api.Point {
	var l []api.Point
	for at := range 32 {
		for _, x := range []byte{1, 128, 255} {
			id := make([]byte, 32)
			id[at] = x
			l = append(l, api.Point{ID: string(id), Index: math.MaxUint32})
		}
	}
	for _, n := range []uint32{0, 1, 1 << 31, 1<<31 - 1, math.MaxUint32 - 1} {
		l = append(l, api.Point{ID: base.ID, Index: n})
	}
	return l
}

func TestCheckBasePoint(t *testing.T) {
	wantCheck(t, "the base point alone", api.Tx{Ins: spending(base), Outs: outsOf(1)}, api.OK)
	for _, ins := range []int{2, 3, 256} {
		for _, at := range places(ins) {
			u := plain(ins, 1)
			u.Ins[at].From = base
			wantCheck(t, fmt.Sprintf("%d Ins, of which %d is From the base point", ins, at), u, api.ErrForm)
			u.Ins[at].From = api.Point{ID: string(make([]byte, 32)), Index: 1<<32 - 1}
			wantCheck(t, fmt.Sprintf("%d Ins, of which %d is From the base point, made anew", ins, at), u, api.ErrForm)
		}
	}
	wantCheck(t, "the base point twice", api.Tx{Ins: spending(base, base), Outs: outsOf(1)}, api.ErrForm)
	for _, p := range nearBase() {
		name := fmt.Sprintf("%x, %d", p.ID, p.Index)
		wantCheck(t, name+" alone", api.Tx{Ins: spending(p), Outs: outsOf(1)}, api.OK)
		wantCheck(t, name+" first of two", api.Tx{Ins: spending(p, point(1)), Outs: outsOf(1)}, api.OK)
		wantCheck(t, name+" last of two", api.Tx{Ins: spending(point(1), p), Outs: outsOf(1)}, api.OK)
		wantCheck(t, name+" beside the base point", api.Tx{Ins: spending(p, base), Outs: outsOf(1)}, api.ErrForm)
	}
	wantCheck(t, "all that are near the base point", api.Tx{Ins: spending(nearBase()...), Outs: outsOf(1)}, api.OK)
}

func TestCheckTwice(t *testing.T) {
	for _, ins := range []int{2, 3, 5, 256} {
		for _, i := range places(ins) {
			for _, k := range places(ins) {
				if i == k {
					continue
				}
				// Only From counts: the rest of the two Ins is not the same.
				u := plain(ins, 1)
				u.Ins[i].Witness, u.Ins[k].Witness = []string{"i"}, []string{"k"}
				u.Ins[k].From = api.Point{ID: strings.Clone(u.Ins[i].From.ID), Index: u.Ins[i].From.Index}
				wantCheck(t, fmt.Sprintf("%d Ins, of which %d and %d are From the same output", ins, i, k), u, api.ErrTwice)
			}
		}
	}
	a := point(0)
	wantCheck(t, "the same three times", api.Tx{Ins: spending(a, a, a), Outs: outsOf(1)}, api.ErrTwice)
	wantCheck(t, "two that stand twice", api.Tx{Ins: spending(a, point(1), a, point(1)), Outs: outsOf(1)}, api.ErrTwice)
	for _, n := range []uint32{1, 2, 1 << 16, 1 << 31, math.MaxUint32} {
		wantCheck(t, "another Index alone", api.Tx{Ins: spending(a, api.Point{ID: a.ID, Index: n}), Outs: outsOf(1)}, api.OK)
	}
	for at := range 32 {
		id := []byte(a.ID)
		id[at]++
		wantCheck(t, "another byte of the ID alone", api.Tx{Ins: spending(a, api.Point{ID: string(id), Index: a.Index}), Outs: outsOf(1)}, api.OK)
	}
	u := plain(2, 1)
	u.Ins[0], u.Ins[1] = api.In{From: point(0), Sequence: 9, Witness: []string{"w"}}, api.In{From: point(1), Sequence: 9, Witness: []string{"w"}}
	wantCheck(t, "two Ins that are the same but for From", u, api.OK)
}

// valueLists: Values, and whether all of them, and their sum, are amounts.
func valueLists() [][]int {
	const most = 2100000000000000
	return [][]int{
		{0}, {1}, {5}, {0, 0, 0}, {3, 4}, {most}, {most, 0}, {0, most}, {most - 1, 1}, {1, most - 2, 1}, slices.Repeat([]int{most / 256}, 256),
		{-1}, {math.MinInt}, {most + 1}, {math.MaxInt}, {5, -1}, {-1, 5}, {1, -1, 1}, {0, 0, -1}, {most + 1, 0}, {0, most + 1},
		{most, 1}, {1, most}, {most - 1, 2}, {most, most}, {most, 0, 1}, {most, 1, -1}, {most + 1, -1}, {-1, most + 1},
		// Sums that would wrap round to an amount.
		{math.MaxInt, 1, math.MaxInt, 1}, {math.MinInt, math.MinInt}, {math.MaxInt, math.MinInt, 1}, {math.MaxInt, math.MaxInt, 2}, {math.MaxInt, math.MaxInt, 7},
		{1 << 62, 1 << 62, 1 << 62, 1 << 62}, {math.MinInt, math.MaxInt, 1}, slices.Repeat([]int{1 << 56}, 256), slices.Repeat([]int{most}, 256),
	}
}

// sumOf values, if each of them and all together are amounts.
func sumOf(values []int) (int, bool) {
	most, sum := big.NewInt(2100000000000000), new(big.Int)
	for _, v := range values {
		if v < 0 || v > 2100000000000000 {
			return 0, false
		}
		sum.Add(sum, big.NewInt(int64(v)))
	}
	if sum.Cmp(most) > 0 {
		return 0, false
	}
	return int(sum.Int64()), true
}

func TestCheckValues(t *testing.T) {
	for _, values := range valueLists() {
		want := api.OK
		if _, ok := sumOf(values); !ok {
			want = api.ErrRange
		}
		name := fmt.Sprintf("%d Values, %d ..", len(values), values[:min(4, len(values))])
		wantCheck(t, name, api.Tx{Ins: insOf(2), Outs: outsWorth(values...)}, want)
		wantCheck(t, name+", granted", tx.Grant(1, outsWorth(values...)), want)
	}
}

type fault struct {
	name string
	e    api.Errno
	make func(*api.Tx)
}

// faults, in the order in which Check tells them. What one of them does, none of the others takes back, but that without Ins or Outs there is nothing to be wrong in them.
func faults() []fault {
	return []fault{
		{"no Ins", api.ErrCount, func(u *api.Tx) { u.Ins = nil }},
		{"no Outs", api.ErrCount, func(u *api.Tx) { u.Outs = nil }},
		{"257 Ins", api.ErrCount, func(u *api.Tx) { u.Ins = append(u.Ins, insOf(300)[len(u.Ins):257]...) }},
		{"257 Outs", api.ErrCount, func(u *api.Tx) { u.Outs = append(u.Outs, outsOf(300)[len(u.Outs):257]...) }},
		{"5 texts", api.ErrCount, func(u *api.Tx) { u.Ins[5].Witness = make([]string, 5) }},
		{"a long Script", api.ErrLong, func(u *api.Tx) { u.Outs[1].Script = strings.Repeat("s", 41) }},
		{"a long text", api.ErrLong, func(u *api.Tx) { u.Ins[4].Witness = []string{"", strings.Repeat("w", 81)} }},
		{"an ID of 31 bytes", api.ErrForm, func(u *api.Tx) { u.Ins[3].From.ID = strings.Repeat("i", 31) }},
		{"an ID of 33 bytes", api.ErrForm, func(u *api.Tx) { u.Ins[3].From.ID = strings.Repeat("i", 33) }},
		{"the base point", api.ErrForm, func(u *api.Tx) { u.Ins[2].From = base }},
		{"an output twice", api.ErrTwice, func(u *api.Tx) { u.Ins[1].From = u.Ins[0].From }},
		{"a Value below 0", api.ErrRange, func(u *api.Tx) { u.Outs[0].Value = -1 }},
		{"a Value above MaxMoney", api.ErrRange, func(u *api.Tx) { u.Outs[0].Value = api.MaxMoney + 1 }},
		{"Values that are too much together", api.ErrRange, func(u *api.Tx) { u.Outs[2].Value = api.MaxMoney }},
	}
}

// TestCheckOrder: each fault with a later one beside it; the first one holds.
func TestCheckOrder(t *testing.T) {
	l := faults()
	for i, first := range l {
		u := plain(6, 3)
		first.make(&u)
		wantCheck(t, "one with "+first.name, u, first.e)
		for _, later := range l[i+1:] {
			u := plain(6, 3)
			later.make(&u)
			if first.make(&u); later.e != first.e {
				wantCheck(t, "one with "+first.name+" and "+later.name, u, first.e)
			}
		}
	}
	all := plain(6, 3)
	for _, f := range slices.Backward(l[2:]) {
		f.make(&all)
	}
	wantCheck(t, "one with all faults but that it has Ins and Outs", all, api.ErrCount)
}

// byWords: what the chapter's sentence asks of Check, word by word.
func byWords(u api.Tx) api.Errno {
	var count, long, form, twice bool
	count = len(u.Ins) < 1 || len(u.Ins) > 256 || len(u.Outs) < 1 || len(u.Outs) > 256
	for i, in := range u.Ins {
		count = count || len(in.Witness) > 4
		for _, item := range in.Witness {
			long = long || len(item) > 80
		}
		form = form || len(in.From.ID) != 32 || len(u.Ins) > 1 && in.From == base
		for _, other := range u.Ins[:i] {
			twice = twice || in.From.ID == other.From.ID && in.From.Index == other.From.Index
		}
	}
	var values []int
	for _, out := range u.Outs {
		long = long || len(out.Script) > 40
		values = append(values, out.Value)
	}
	_, amounts := sumOf(values)
	switch {
	case count:
		return api.ErrCount
	case long:
		return api.ErrLong
	case form:
		return api.ErrForm
	case twice:
		return api.ErrTwice
	case !amounts:
		return api.ErrRange
	}
	return api.OK
}

// mixer makes transactions of parts that are mostly good, and sometimes not.
type mixer struct{ *rand.Rand }

func pick[E any](m mixer, l ...E) E { return l[m.Intn(len(l))] }

func (m mixer) tx(wrong int) api.Tx {
	u := api.Tx{Version: m.Uint32(), LockTime: m.Uint32()}
	bad := func() bool { return m.Intn(wrong) == 0 }
	for i := range m.Intn(5) + 1 {
		in := api.In{From: point(i), Sequence: m.Uint32()}
		for range m.Intn(5) {
			in.Witness = append(in.Witness, strings.Repeat("w", pick(m, 0, 1, 79, 80)))
		}
		if bad() {
			in.From = pick(m, base, point(m.Intn(6)), api.Point{ID: strings.Repeat("\x00", 31+m.Intn(3)), Index: math.MaxUint32})
		}
		if bad() {
			in.Witness = append(in.Witness, strings.Repeat("w", 80+m.Intn(2)))
		}
		u.Ins = append(u.Ins, in)
	}
	for range m.Intn(4) + 1 {
		out := api.Out{Value: m.Intn(api.MaxMoney / 4), Script: strings.Repeat("s", pick(m, 0, 9, 39, 40))}
		if bad() {
			out.Value = pick(m, -1, 0, api.MaxMoney, api.MaxMoney+1, math.MaxInt, math.MinInt)
		}
		if bad() {
			out.Script = strings.Repeat("s", 40+m.Intn(2))
		}
		u.Outs = append(u.Outs, out)
	}
	if bad() && bad() {
		u.Outs = nil
	}
	return u
}

func TestCheckAgainstTheWords(t *testing.T) {
	m := mixer{rand.New(rand.NewSource(5))}
	seen := map[api.Errno]int{}
	for i := range 60000 {
		u := m.tx(4 + i%37)
		want := byWords(u)
		seen[want]++
		if e := tx.Check(u); e != want {
			t.Fatalf("P5.1: Check of %s is %d, not %d", brief(u), e, want)
		}
	}
	for _, e := range []api.Errno{api.OK, api.ErrCount, api.ErrLong, api.ErrForm, api.ErrTwice, api.ErrRange} {
		if seen[e] < 500 {
			t.Errorf("only %d transactions of %d", seen[e], e)
		}
	}
}
