package wire_test

import (
	"encoding/binary"
	"fmt"
	"math/rand"
	"slices"
	"strings"
	"testing"

	"kedge/api"
	"kedge/tx"
	"kedge/wire"
)

// fault: where the bytes are wrong, and by what.
type fault struct {
	at int
	e  api.Errno
}

// byWords reads a transaction sentence by sentence, and stops at the first fault.
type byWords struct {
	s  string
	at int
}

func (b *byWords) want(size int) string {
	if len(b.s)-b.at < size {
		panic(fault{b.at, api.ErrShort})
	}
	part := b.s[b.at : b.at+size]
	b.at += size
	return part
}

func (b *byWords) in4() uint32 { return binary.LittleEndian.Uint32([]byte(b.want(4))) }

// count or length, within those bounds, or else that error.
func (b *byWords) count(least, most uint64, e api.Errno) int {
	from, size := b.at, 1
	if rest := b.s[from:]; rest != "" && rest[0] >= 253 {
		size = 1 + 2<<(rest[0]-253)
	}
	bytes := []byte(b.want(size))
	n := uint64(bytes[0])
	if size > 1 {
		n = binary.LittleEndian.Uint64(append(bytes[1:], make([]byte, 8)...))
	}
	if counted(n) != b.s[from:b.at] {
		panic(fault{from, api.ErrForm})
	}
	if n < least || n > most {
		panic(fault{from, e})
	}
	return int(n)
}

func (b *byWords) transaction() api.Tx {
	u := api.Tx{Version: b.in4()}
	marked := strings.HasPrefix(b.s[b.at:], "\x00")
	if marked {
		b.want(1)
		if b.want(1) != "\x01" {
			panic(fault{b.at - 1, api.ErrForm})
		}
	}
	for range b.count(1, 256, api.ErrCount) {
		in := api.In{From: api.Point{ID: b.want(32), Index: b.in4()}}
		b.count(0, 0, api.ErrForm)
		in.Sequence = b.in4()
		u.Ins = append(u.Ins, in)
	}
	for range b.count(1, 256, api.ErrCount) {
		value := binary.LittleEndian.Uint64([]byte(b.want(8)))
		if value > 2100000000000000 {
			panic(fault{b.at - 8, api.ErrRange})
		}
		u.Outs = append(u.Outs, api.Out{Value: int(value), Script: b.want(b.count(0, 40, api.ErrLong))})
	}
	if marked {
		b.witnesses(&u)
	}
	u.LockTime = b.in4()
	return u
}

func (b *byWords) witnesses(u *api.Tx) {
	first := b.at
	for i := range u.Ins {
		for range b.count(0, 4, api.ErrCount) {
			u.Ins[i].Witness = append(u.Ins[i].Witness, b.want(b.count(0, 80, api.ErrLong)))
		}
	}
	if !isMarked(*u) {
		panic(fault{first, api.ErrForm})
	}
}

// decodeByWords: what the chapter's sentence says of Decode.
func decodeByWords(s string) (u api.Tx, at int, e api.Errno) {
	defer func() {
		switch f := recover().(type) {
		case nil:
		case fault:
			u, at, e = api.Tx{}, f.at, f.e
		default:
			panic(f)
		}
	}()
	b := &byWords{s: s}
	u = b.transaction()
	if b.at < len(s) {
		panic(fault{b.at, api.ErrForm})
	}
	if e := tx.Check(u); e != api.OK {
		panic(fault{b.at, e})
	}
	return u, len(s), api.OK
}

// holdDecode against the words; what is decoded is encoded as it was.
func holdDecode(t *testing.T, s string) api.Errno {
	t.Helper()
	u, n, e := wire.Decode(s)
	wantTx, wantN, wantE := decodeByWords(s)
	if told(u) != told(wantTx) || n != wantN || e != wantE {
		t.Errorf("P6.2: Decode of %x is %s, %d, %d, not %s, %d, %d", s, brief(told(u)), n, e, brief(told(wantTx)), wantN, wantE)
	}
	if e != api.OK {
		return e
	}
	if again, e := wire.Encode(u); again != s || e != api.OK {
		t.Errorf("P6.3: what is decoded of %x is encoded as %x, %d", s, again, e)
	}
	return api.OK
}

func randomText(r *rand.Rand, size int) string {
	b := make([]byte, size)
	r.Read(b)
	return string(b)
}

// randomSize: mostly a small one, now and then the greatest.
func randomSize(r *rand.Rand, least, most int) int {
	switch r.Intn(8) {
	case 0:
		return least
	case 1:
		return most
	case 2:
		return least + r.Intn(most-least+1)
	}
	return least + r.Intn(min(4, most-least+1))
}

// randomTx: one that may be, or now and then isn't one by Check alone.
func randomTx(r *rand.Rand, most int) api.Tx {
	u := api.Tx{Version: r.Uint32(), LockTime: r.Uint32()}
	for range randomSize(r, 1, most) {
		in := api.In{From: api.Point{ID: randomText(r, 32), Index: r.Uint32()}, Sequence: r.Uint32()}
		if r.Intn(2) == 0 {
			for range r.Intn(5) {
				in.Witness = append(in.Witness, randomText(r, randomSize(r, 0, 80)))
			}
		}
		u.Ins = append(u.Ins, in)
	}
	for range randomSize(r, 1, most) {
		u.Outs = append(u.Outs, api.Out{Value: r.Intn(api.MaxMoney / 256), Script: randomText(r, randomSize(r, 0, 40))})
	}
	switch r.Intn(12) {
	case 0:
		u.Ins[0].From = base
	case 1:
		u.Ins[len(u.Ins)-1].From = u.Ins[0].From
	case 2:
		u.Outs[r.Intn(len(u.Outs))].Value = api.MaxMoney
	}
	return u
}

// TestBothWays: what is encoded is decoded to the same transaction, the bare bytes to it without Witnesses; what is encoded is as the words say.
func TestBothWays(t *testing.T) {
	r := rand.New(rand.NewSource(6))
	l := []api.Tx{rich(), greatest(), plain(1, 1), plain(256, 256), tx.Grant(0, []api.Out{{}})}
	for i := range 3000 {
		most := 6
		if i%50 == 0 {
			most = 256
		}
		l = append(l, randomTx(r, most))
	}
	good := 0
	for _, u := range l {
		if e := tx.Check(u); e != api.OK {
			wantRefused(t, brief(told(u)), u, e)
			continue
		}
		good++
		full, bare := joined(partsOf(u, isMarked(u))), joined(partsOf(u, false))
		before := told(u)
		wantEncode(t, brief(before), u, full, bare)
		if told(u) != before {
			t.Errorf("rule 4: %s is %s behind Encode and Bare", brief(before), brief(told(u)))
		}
		for s, want := range map[string]api.Tx{full: u, bare: stripped(u)} {
			if v, n, e := wire.Decode(s); !tx.Equal(v, want) || told(v) != told(want) || n != len(s) || e != api.OK {
				t.Errorf("P6.3: %s comes back as %s, %d, %d", brief(told(want)), brief(told(v)), n, e)
			}
			holdDecode(t, s)
		}
	}
	if good < 2000 {
		t.Fatalf("only %d transactions are good", good)
	}
}

// spoiled: bytes with one to three changes.
func spoiled(r *rand.Rand, parts []part) string {
	parts = slices.Clone(parts)
	for range 1 + r.Intn(3) {
		i := r.Intn(len(parts))
		p := &parts[i]
		switch l := wrongParts(p.name, r.Intn(2) == 0); r.Intn(6) {
		case 0, 1:
			if len(l) > 0 {
				p.bytes = l[r.Intn(len(l))].bytes
			}
		case 2:
			p.bytes = p.bytes[:r.Intn(len(p.bytes)+1)]
		case 3:
			p.bytes += randomText(r, 1+r.Intn(3))
		case 4:
			b := []byte(p.bytes)
			if len(b) > 0 {
				b[r.Intn(len(b))] = byte(r.Intn(6)) - 3
			}
			p.bytes = string(b)
		case 5:
			other := parts[r.Intn(len(parts))]
			p.bytes = other.bytes
		}
	}
	s := joined(parts)
	if r.Intn(10) == 0 {
		s = s[:r.Intn(len(s)+1)]
	}
	return s
}

// TestSpoiled: bytes that are nearly a transaction's, against the chapter's sentence.
func TestSpoiled(t *testing.T) {
	r := rand.New(rand.NewSource(66))
	seen := map[api.Errno]int{}
	for range 60000 {
		u := randomTx(r, 4)
		seen[holdDecode(t, spoiled(r, partsOf(u, r.Intn(2) == 0)))]++
	}
	for _, e := range []api.Errno{api.OK, api.ErrShort, api.ErrForm, api.ErrCount, api.ErrRange, api.ErrLong, api.ErrTwice} {
		if seen[e] < 50 {
			t.Errorf("only %d of the spoiled bytes were answered by %d", seen[e], e)
		}
	}
}

// TestShortTexts: every text of few bytes, behind Version, of those that begin something.
func TestShortTexts(t *testing.T) {
	letters := "\x00\x01\x02\xfc\xfd\xfe\xff"
	var grow func(s string, more int)
	grow = func(s string, more int) {
		holdDecode(t, s)
		if more == 0 {
			return
		}
		for i := range len(letters) {
			grow(s+letters[i:i+1], more-1)
		}
	}
	grow("", 3)
	for _, version := range []string{"\x00\x00\x00\x00", "\x02\x00\x00\x00"} {
		grow(version, 5)
	}
	// The same behind an In, an Out, and where a Witness is.
	parts := partsOf(plain(1, 1), true)
	for i, p := range parts {
		if i > 2 && p.bytes != "" {
			grow(joined(parts[:i]), 3)
		}
	}
}

// FuzzDecode: any text; its seeds are run with the other tests.
func FuzzDecode(f *testing.F) {
	for _, u := range []api.Tx{rich(), plain(2, 2), tx.Grant(0, []api.Out{{}})} {
		f.Add(joined(partsOf(u, true)))
		f.Add(joined(partsOf(u, false)))
	}
	f.Fuzz(func(t *testing.T, s string) { holdDecode(t, s) })
}

// TestApart: P2 and rule 7, what is answered hangs on the arguments alone.
func TestApart(t *testing.T) {
	l := []api.Tx{rich(), plain(2, 3), {}, greatest()}
	answer := func(u api.Tx) string {
		s, e := wire.Encode(u)
		b, f := wire.Bare(u)
		v, n, g := wire.Decode(s)
		return fmt.Sprintf("%x %d %x %d %s %d %d", s, e, b, f, told(v), n, g)
	}
	var first []string
	for _, u := range l {
		first = append(first, answer(u))
	}
	for i := range l {
		at := len(l) - 1 - i
		if answer(l[at]) != first[at] {
			t.Errorf("rule 7: another time another answer of %s", brief(told(l[at])))
		}
	}
}
