package lock_test

import (
	"fmt"
	"math"
	"math/rand"
	"slices"
	"strings"
	"testing"

	"kedge/api"
	"kedge/lock"
)

// locks: of 1, 2 and 3 branches, with something in every part, with nothing, and with the greatest.
func locks() [][]api.Branch {
	return [][]api.Branch{
		{{}},
		{{Tag: 1}},
		{{Tag: 0x0201, Delay: 0x0403, Height: 0x0c0605}},
		{{Tag: 65535, Delay: 65535, Height: 1000000}},
		{{Delay: 1}, {Height: 1}},
		{{}, {}},
		{{Tag: 5, Delay: 3}, {Height: 100}, {Tag: 6}},
		{{Tag: 6}, {Tag: 6}, {Tag: 6}},
		{{Tag: 65535, Delay: 65535, Height: 1000000}, {Tag: 65535, Delay: 65535, Height: 999999}, {Tag: 65534, Delay: 65534, Height: 1000000}},
	}
}

func TestExample(t *testing.T) {
	s := bytesOf(t, "01 0100 0000 00000000")
	wantPut(t, []api.Branch{{Tag: 1}}, s, api.OK)
	wantGet(t, s, []api.Branch{{Tag: 1}}, api.OK)
}

func TestScriptWrittenOut(t *testing.T) {
	for _, x := range []struct {
		l      []api.Branch
		digits string
	}{
		{[]api.Branch{{}}, "01 0000 0000 00000000"},
		{[]api.Branch{{Tag: 0x0201, Delay: 0x0403, Height: 0x0c0605}}, "01 0102 0304 05060c00"},
		{[]api.Branch{{Tag: 65535, Delay: 1, Height: 1000000}}, "01 ffff 0100 40420f00"},
		{[]api.Branch{{Delay: 65535, Height: 65536}, {Tag: 256}}, "02 0000 ffff 00000100 0001 0000 00000000"},
		{[]api.Branch{{Tag: 1}, {Delay: 2}, {Height: 3}}, "03 0100 0000 00000000 0000 0200 00000000 0000 0000 03000000"},
	} {
		s := bytesOf(t, x.digits)
		wantPut(t, x.l, s, api.OK)
		wantGet(t, s, x.l, api.OK)
	}
}

func TestPutIsGotAgain(t *testing.T) {
	for _, l := range locks() {
		wantPut(t, l, scriptOf(l...), api.OK)
		s, _ := lock.Put(l)
		wantGet(t, s, l, api.OK)
	}
	r := rand.New(rand.NewSource(8))
	for range 500 {
		l := make([]api.Branch, 1+r.Intn(3))
		for i := range l {
			l[i] = api.Branch{Tag: uint16(r.Uint32()), Delay: uint16(r.Uint32()), Height: uint32(r.Intn(1000001))}
		}
		wantPut(t, l, scriptOf(l...), api.OK)
		wantGet(t, scriptOf(l...), l, api.OK)
	}
}

func TestPutCounts(t *testing.T) {
	wantPut(t, nil, "", api.ErrCount)
	wantPut(t, []api.Branch{}, "", api.ErrCount)
	for n := range 12 {
		l, want, code := make([]api.Branch, n), "", api.ErrCount
		if n >= 1 && n <= 3 {
			want, code = in1(n)+strings.Repeat("\x00", 8*n), api.OK
		}
		wantPut(t, l, want, code)
	}
	for _, n := range []int{255, 256, 257, 258, 259, 65536 + 2} {
		if s, e := lock.Put(make([]api.Branch, n)); s != "" || e != api.ErrCount {
			t.Errorf("P8.1: Put of %d branches is %.60x, %d", n, s, e)
		}
	}
	// Too many, and too high as well: the count is told.
	for _, n := range []int{4, 5, 257} {
		for _, at := range []int{0, 2, 3, n - 1} {
			l := make([]api.Branch, n)
			l[at].Height = 1000001
			if s, e := lock.Put(l); s != "" || e != api.ErrCount {
				t.Errorf("P8.1: Put of %d branches, the one at %d too high, is %.60x, %d", n, at, s, e)
			}
		}
	}
}

// TestHeights: at the limit and above it, in each place of each count; Put and Get alike.
func TestHeights(t *testing.T) {
	for n := 1; n <= 3; n++ {
		for at := range n {
			l := make([]api.Branch, n)
			for _, good := range []uint32{0, 1, 65535, 65536, 999999, 1000000} {
				l[at].Height = good
				wantPut(t, l, scriptOf(l...), api.OK)
				wantGet(t, scriptOf(l...), l, api.OK)
			}
			for _, bad := range []uint32{1000001, 1000002, 1 << 24, 1<<31 - 1, 1 << 31, 1<<32 - 1000000, math.MaxUint32} {
				l[at].Height = bad
				wantPut(t, l, "", api.ErrRange)
				wantGet(t, scriptOf(l...), nil, api.ErrForm)
			}
		}
		all := slices.Repeat([]api.Branch{{Height: 1000001}}, n)
		wantPut(t, all, "", api.ErrRange)
		wantGet(t, scriptOf(all...), nil, api.ErrForm)
	}
}

func TestGetCutOrLonger(t *testing.T) {
	for _, l := range locks() {
		s := scriptOf(l...)
		for n := range len(s) {
			wantGet(t, s[:n], nil, api.ErrForm)
			wantGet(t, s[n+1:], nil, api.ErrForm)
		}
		for _, more := range []string{"\x00", "\x01", "\xff", s[1:2], s[1:9], s, strings.Repeat("\x00", 8), strings.Repeat("\x00", 256), strings.Repeat("\x00", 1<<16)} {
			wantGet(t, s+more, nil, api.ErrForm)
		}
	}
}

// TestGetCounts: each first byte, behind which are as many branches as it tells, or up to four.
func TestGetCounts(t *testing.T) {
	for count := range 256 {
		for _, branches := range []int{0, 1, 2, 3, 4, count} {
			s, want, code := in1(count)+strings.Repeat("\x01\x00\x02\x00\x03\x00\x00\x00", branches), []api.Branch(nil), api.ErrForm
			if count >= 1 && count <= 3 && branches == count {
				want, code = slices.Repeat([]api.Branch{{Tag: 1, Delay: 2, Height: 3}}, count), api.OK
			}
			wantGet(t, s, want, code)
		}
	}
}

// TestGotIsPutAgain: whatever bytes are a lock's script are what its branches are put into.
func TestGotIsPutAgain(t *testing.T) {
	r := rand.New(rand.NewSource(81))
	good := 0
	for range 20000 {
		b := make([]byte, 1+8*r.Intn(4)+r.Intn(20)/19)
		r.Read(b)
		b[0] = byte(r.Intn(5))
		for i := 8; i < len(b); i += 8 {
			b[i], b[i-1] = 0, byte(r.Intn(17))
		}
		l, e := lock.Get(string(b))
		if e != api.OK {
			if len(l) != 0 || e != api.ErrForm {
				t.Errorf("P8.1: Get(%x) is %v, %d", b, l, e)
			}
			continue
		}
		good++
		wantPut(t, l, string(b), api.OK)
	}
	if good < 1000 {
		t.Errorf("P8.1: only %d scripts were a lock's", good)
	}
}

// TestScriptMemory: nothing behind a list's length is read or written, nothing is kept or shared.
func TestScriptMemory(t *testing.T) {
	whole := []api.Branch{{Tag: 1}, {Delay: 2}, {Height: 1000001}, {Tag: 4}, {Tag: 5}}
	before := fmt.Sprint(whole)
	s, e := lock.Put(whole[:2])
	if s != scriptOf(api.Branch{Tag: 1}, api.Branch{Delay: 2}) || e != api.OK {
		t.Errorf("P8.1: Put of the first two is %x, %d", s, e)
	}
	wantPut(t, whole[:0], "", api.ErrCount)
	if fmt.Sprint(whole) != before {
		t.Errorf("P8.1: Put left %v of %v", whole, before)
	}
	whole[0].Tag = 9
	wantGet(t, s, []api.Branch{{Tag: 1}, {Delay: 2}}, api.OK)
	first, _ := lock.Get(s)
	second, _ := lock.Get(s)
	first[0], first[1] = api.Branch{Tag: 77}, api.Branch{Tag: 78}
	if !slices.Equal(second, []api.Branch{{Tag: 1}, {Delay: 2}}) {
		t.Errorf("P8.1: what is got twice shares memory: %v", second)
	}
	wantGet(t, s, []api.Branch{{Tag: 1}, {Delay: 2}}, api.OK)
}
