package lock_test

import (
	"fmt"
	"math"
	"slices"
	"strings"
	"testing"

	"kedge/api"
	"kedge/lock"
)

func tags() []uint16 { return []uint16{0, 1, 2, 255, 256, 258, 32767, 32768, 65280, 65534, 65535} }

func wantSign(t *testing.T, branch int, tag uint16, want []string, code api.Errno) {
	t.Helper()
	if w, e := lock.Sign(branch, tag); !slices.Equal(w, want) || e != code {
		t.Errorf("P8.2: Sign(%d, %d) is %q, %d, not %q, %d", branch, tag, w, e, want, code)
	}
}

func TestSignWrittenOut(t *testing.T) {
	wantSign(t, 0, 0, []string{"\x00\x00\x00"}, api.OK)
	wantSign(t, 0, 1, []string{"\x00\x01\x00"}, api.OK)
	wantSign(t, 1, 258, []string{"\x01\x02\x01"}, api.OK)
	wantSign(t, 2, 0xfe01, []string{"\x02\x01\xfe"}, api.OK)
	wantSign(t, 2, 65535, []string{"\x02\xff\xff"}, api.OK)
}

func TestSign(t *testing.T) {
	for _, tag := range tags() {
		for branch := range 3 {
			wantSign(t, branch, tag, signedBy(branch, tag), api.OK)
			wantSigned(t, signedBy(branch, tag), branch, tag, api.OK)
		}
		for _, branch := range []int{-1, -2, -3, -255, -256, -1 << 32, math.MinInt, math.MinInt + 1, 3, 4, 255, 256, 257, 258, 65536, 1 << 32, 1<<32 + 1, math.MaxInt - 1, math.MaxInt} {
			wantSign(t, branch, tag, nil, api.ErrArg)
		}
	}
}

func TestSignedWrittenOut(t *testing.T) {
	wantSigned(t, []string{"\x00\x00\x00"}, 0, 0, api.OK)
	wantSigned(t, []string{"\x00\x01\x00"}, 0, 1, api.OK)
	wantSigned(t, []string{"\x01\x00\x01"}, 1, 256, api.OK)
	wantSigned(t, []string{"\x02\x02\x01"}, 2, 258, api.OK)
	wantSigned(t, []string{"\x02\xff\xff"}, 2, 65535, api.OK)
}

// TestSignedBranches: each first byte; those from 3 on are no witness's.
func TestSignedBranches(t *testing.T) {
	for branch := range 256 {
		for _, tag := range tags() {
			if branch <= 2 {
				wantSigned(t, signedBy(branch, tag), branch, tag, api.OK)
			} else {
				wantSigned(t, signedBy(branch, tag), 0, 0, api.ErrForm)
			}
		}
	}
}

func TestSignedWrongForms(t *testing.T) {
	one := "\x01\x07\x00"
	for _, w := range [][]string{
		nil, {}, {""}, {"\x01"}, {"\x01\x07"}, {one + "\x00"}, {one + one}, {one + "\xff\xff\xff\xff"}, {strings.Repeat("\x00", 80)}, {strings.Repeat("\x01", 1<<16+3)},
		{one, one}, {one, ""}, {"", one}, {one, "\x01\x07"}, {"\x01", "\x07\x00"}, {"", ""}, {"\x01", "\x07", "\x00"}, {one, one, one}, {one, "", "", ""}, {one, one, one, one, one},
		{"\x03\x07"}, {"\x03\x07\x00\x00"}, {"\xff\x07\x00"}, {"\x03\x07\x00", one},
	} {
		wantSigned(t, w, 0, 0, api.ErrForm)
	}
}

func TestSequence(t *testing.T) {
	for _, others := range []api.Branch{{}, {Tag: 1}, {Tag: 65535, Height: 1}, {Height: 1000000}, {Height: math.MaxUint32}} {
		for _, delay := range []uint16{0, 1, 2, 7, 255, 256, 32767, 32768, 65534, 65535} {
			b, want := api.Branch{Tag: others.Tag, Delay: delay, Height: others.Height}, uint32(delay)
			if delay == 0 {
				want = 4294967293
			}
			if n := lock.Sequence(b); n != want {
				t.Errorf("P8.2: Sequence(%v) is %d, not %d", b, n, want)
			}
		}
	}
}

// TestSequenceOpens: with the Sequence of a branch, and a LockTime of its Height, the branch opens.
func TestSequenceOpens(t *testing.T) {
	for _, delay := range []uint16{0, 1, 65535} {
		for _, height := range []uint32{0, 1, 1000000} {
			b := api.Branch{Tag: 7, Delay: delay, Height: height}
			u := with(lock.Sequence(b))
			u.LockTime = height
			wantOpen(t, scriptOf(b), u, 0, api.OK)
		}
	}
}

// TestWitnessMemory: nothing behind a list's length is read or written, nothing is shared.
func TestWitnessMemory(t *testing.T) {
	whole := []string{"\x01\x07\x00", "more", "\x02\x07\x00"}
	before := fmt.Sprint(whole)
	wantSigned(t, whole[:1], 1, 7, api.OK)
	wantSigned(t, whole[:0], 0, 0, api.ErrForm)
	if fmt.Sprint(whole) != before {
		t.Errorf("P8.2: Signed left %q of %q", whole, before)
	}
	first, _ := lock.Sign(1, 7)
	second, _ := lock.Sign(1, 7)
	first[0] = "another"
	if !slices.Equal(second, signedBy(1, 7)) {
		t.Errorf("P8.2: what is signed twice shares memory: %q", second)
	}
	wantSign(t, 1, 7, signedBy(1, 7), api.OK)
}
