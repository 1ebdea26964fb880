package lock_test

import (
	"math"
	"math/rand"
	"strings"
	"testing"

	"kedge/api"
	"kedge/lock"
)

// three branches: a delayed one, a later one for anybody, and one that opens at once.
func three() string {
	return scriptOf(api.Branch{Tag: 5, Delay: 3}, api.Branch{Height: 100}, api.Branch{Tag: 6})
}

// spend: a transaction with one In.
func spend(version, sequence, lockTime uint32, witness []string) api.Tx {
	return api.Tx{Version: version, Ins: []api.In{{Sequence: sequence, Witness: witness}}, LockTime: lockTime}
}

// openOf by the chapter's words, of a lock that may be and an In that is signed for a branch by a tag.
func openOf(l []api.Branch, branch int, tag uint16, u api.Tx, in int) api.Errno {
	if branch > 2 || branch >= len(l) {
		return api.ErrLock
	}
	b, sequence := l[branch], u.Ins[in].Sequence
	if b.Tag != 0 && b.Tag != tag {
		return api.ErrLock
	}
	if waitsOf(u.Version, sequence) < int(b.Delay) {
		return api.ErrEarly
	}
	if b.Height > 0 {
		if u.LockTime < b.Height || sequence == final {
			return api.ErrEarly
		}
	}
	return api.OK
}

func TestOpenOrdinary(t *testing.T) {
	wantOpen(t, three(), spend(2, 3, 0, signedBy(0, 5)), 0, api.OK)
	wantOpen(t, three(), spend(2, 0, 100, signedBy(1, 9)), 0, api.OK)
	wantOpen(t, three(), spend(2, final, 0, signedBy(2, 6)), 0, api.OK)
	wantOpen(t, scriptOf(api.Branch{}), spend(0, final, 0, signedBy(0, 0)), 0, api.OK)
}

// TestOpenPlaces: at each In by itself; elsewhere ErrArg, ahead of whatever else is wrong.
func TestOpenPlaces(t *testing.T) {
	u := with(3, 3, 2, 3, 0)
	u.Ins[0].Witness, u.Ins[1].Witness, u.Ins[2].Witness = signedBy(0, 5), signedBy(0, 6), signedBy(0, 5)
	u.Ins[3].Witness, u.Ins[4].Witness = nil, signedBy(2, 6)
	for in, want := range []api.Errno{api.OK, api.ErrLock, api.ErrEarly, api.ErrLock, api.OK} {
		wantOpen(t, three(), u, in, want)
	}
	for _, n := range []int{0, 1, 2, 256} {
		for _, in := range farPlaces(n) {
			for _, script := range []string{"", three(), "none"} {
				wantArg(t, script, with(make([]uint32, n)...), in)
			}
		}
	}
	wantOpen(t, three(), api.Tx{}, 0, api.ErrArg)
	wantOpen(t, "", api.Tx{Ins: []api.In{}}, 0, api.ErrArg)
}

func wantArg(t *testing.T, script string, u api.Tx, in int) {
	t.Helper()
	if e := lock.Open(script, u, in); e != api.ErrArg {
		t.Errorf("P8.3: Open at %d of %d Ins is %d, not ErrArg", in, len(u.Ins), e)
	}
}

// TestOpenLock: each reason for ErrLock by itself, with nothing else wrong.
func TestOpenLock(t *testing.T) {
	opens := spend(2, 3, 100, signedBy(0, 5))
	wantOpen(t, three(), opens, 0, api.OK)
	for n := range len(three()) {
		wantOpen(t, three()[:n], opens, 0, api.ErrLock)
	}
	for _, script := range []string{"", "\x00", three() + "\x00", "\x00" + three(), three() + three(), strings.Repeat("\x00", 25), "\x04" + strings.Repeat("\x05\x00\x00\x00\x00\x00\x00\x00", 4),
		scriptOf(api.Branch{Tag: 5, Height: 1000001}), scriptOf(api.Branch{Tag: 5}, api.Branch{Height: 1000001}), scriptOf(api.Branch{Tag: 5}, api.Branch{}, api.Branch{Height: math.MaxUint32})} {
		u := opens
		u.LockTime = math.MaxUint32
		wantOpen(t, script, u, 0, api.ErrLock)
	}
	one := "\x00\x05\x00"
	for _, w := range [][]string{nil, {}, {""}, {"\x00"}, {"\x00\x05"}, {one + "\x00"}, {one, one}, {one, ""}, {"", one}, {"\x03\x05\x00"}, {"\xff\x05\x00"}, {one, one, one, one}} {
		wantOpen(t, three(), spend(2, 3, 100, w), 0, api.ErrLock)
		wantOpen(t, scriptOf(api.Branch{}), spend(2, 3, 100, w), 0, api.ErrLock)
	}
	for n := 1; n <= 3; n++ {
		l := make([]api.Branch, n)
		for branch := range 256 {
			want := api.ErrLock
			if branch < n {
				want = api.OK
			}
			wantOpen(t, scriptOf(l...), spend(2, 3, 100, signedBy(branch, 5)), 0, want)
		}
	}
}

// TestOpenTags: 0 in the lock opens to every tag; 0 in the witness opens nothing but that.
func TestOpenTags(t *testing.T) {
	for _, own := range tags() {
		for _, tag := range tags() {
			want := api.ErrLock
			if own == 0 || own == tag {
				want = api.OK
			}
			for n := range 3 {
				l := []api.Branch{{Tag: 1000}, {Tag: 1001}, {Tag: 1002}}
				l[n].Tag = own
				wantOpen(t, scriptOf(l...), spend(2, 0, 0, signedBy(n, tag)), 0, want)
			}
		}
	}
	// The tag of another branch opens nothing.
	l := scriptOf(api.Branch{Tag: 5}, api.Branch{Tag: 6}, api.Branch{Tag: 0})
	wantOpen(t, l, spend(2, 0, 0, signedBy(0, 6)), 0, api.ErrLock)
	wantOpen(t, l, spend(2, 0, 0, signedBy(1, 5)), 0, api.ErrLock)
	wantOpen(t, l, spend(2, 0, 0, signedBy(1, 0)), 0, api.ErrLock)
	wantOpen(t, l, spend(2, 0, 0, signedBy(2, 5)), 0, api.OK)
}

// TestOpenDelays: a Delay equal to what the In waits, one more and one less, and far ones.
func TestOpenDelays(t *testing.T) {
	for _, version := range versions() {
		for _, sequence := range sequences() {
			waits := waitsOf(version, sequence)
			for _, delay := range []int{0, 1, 2, waits - 1, waits, waits + 1, 65534, 65535} {
				if delay < 0 || delay > 65535 {
					continue
				}
				want := api.OK
				if delay > waits {
					want = api.ErrEarly
				}
				wantOpen(t, scriptOf(api.Branch{Tag: 7, Delay: uint16(delay)}), spend(version, sequence, 0, signedBy(0, 7)), 0, want)
			}
		}
	}
}

func TestOpenDelaysWrittenOut(t *testing.T) {
	script, w := scriptOf(api.Branch{Delay: 10}), signedBy(0, 1)
	for _, x := range []struct {
		version, sequence uint32
		want              api.Errno
	}{
		{2, 10, api.OK}, {2, 11, api.OK}, {2, 9, api.ErrEarly}, {2, 0, api.ErrEarly}, {1, 10, api.ErrEarly}, {0, 65535, api.ErrEarly}, {3, 10, api.OK}, {math.MaxUint32, 10, api.OK}, {math.MaxUint32, 9, api.ErrEarly},
		{2, 65535, api.OK}, {2, 65536, api.ErrEarly}, {2, 65536 + 9, api.ErrEarly}, {2, 65536 + 10, api.OK}, {2, 1<<22 + 10, api.OK},
		{2, 1<<31 - 1, api.OK}, {2, 1 << 31, api.ErrEarly}, {2, 1<<31 + 10, api.ErrEarly}, {2, 4294967293, api.ErrEarly}, {2, final, api.ErrEarly},
	} {
		wantOpen(t, script, spend(x.version, x.sequence, 0, w), 0, x.want)
	}
}

// TestOpenHeights: of 0, and one less than, equal to and one more than LockTime.
func TestOpenHeights(t *testing.T) {
	for _, height := range []uint32{0, 1, 2, 100, 65536, 999999, 1000000} {
		script := scriptOf(api.Branch{Tag: 7, Height: height})
		for _, lockTime := range []uint32{0, 1, 99, 100, 101, height - 1, height, height + 1, 1000000, 1000001, 500000000, 1 << 31, math.MaxUint32} {
			for _, version := range versions() {
				for _, sequence := range sequences() {
					want := api.OK
					if height > 0 && (lockTime < height || sequence == final) {
						want = api.ErrEarly
					}
					wantOpen(t, script, spend(version, sequence, lockTime, signedBy(0, 7)), 0, want)
				}
			}
		}
	}
}

// TestOpenOthersSequence: another In's Sequence, Witness or place makes no difference.
func TestOpenOthersSequence(t *testing.T) {
	script := scriptOf(api.Branch{Tag: 7, Delay: 3, Height: 100})
	u := with(3, final, 0)
	u.LockTime = 100
	wantOpen(t, script, u, 0, api.OK)
	wantOpen(t, script, u, 1, api.ErrEarly)
	wantOpen(t, script, u, 2, api.ErrEarly)
	high := scriptOf(api.Branch{Tag: 7, Height: 100})
	for in, want := range []api.Errno{api.OK, api.ErrEarly, api.OK} {
		wantOpen(t, high, u, in, want)
	}
}

// TestOpenLockAheadOfEarly: where both apply, ErrLock is told.
func TestOpenLockAheadOfEarly(t *testing.T) {
	script := scriptOf(api.Branch{Tag: 5, Delay: 10, Height: 100}, api.Branch{Tag: 6, Delay: 65535})
	wantOpen(t, script, spend(2, 9, 99, signedBy(0, 5)), 0, api.ErrEarly)
	wantOpen(t, script, spend(1, final, 0, signedBy(0, 6)), 0, api.ErrLock)
	wantOpen(t, script, spend(2, 9, 99, signedBy(0, 6)), 0, api.ErrLock)
	wantOpen(t, script, spend(2, 9, 99, signedBy(1, 5)), 0, api.ErrLock)
	wantOpen(t, script, spend(2, 9, 99, signedBy(2, 5)), 0, api.ErrLock)
	wantOpen(t, script, spend(2, 9, 99, nil), 0, api.ErrLock)
	wantOpen(t, script[:16], spend(2, 9, 99, signedBy(0, 5)), 0, api.ErrLock)
	// Each reason for ErrEarly by itself, and two of them.
	wantOpen(t, script, spend(2, 10, 100, signedBy(0, 5)), 0, api.OK)
	wantOpen(t, script, spend(2, 9, 100, signedBy(0, 5)), 0, api.ErrEarly)
	wantOpen(t, script, spend(2, 10, 99, signedBy(0, 5)), 0, api.ErrEarly)
	wantOpen(t, script, spend(2, final, 100, signedBy(0, 5)), 0, api.ErrEarly)
	wantOpen(t, scriptOf(api.Branch{Height: 100}), spend(2, final, 100, signedBy(0, 5)), 0, api.ErrEarly)
}

// TestOpenMemory: nothing behind a list's length is read, nothing is changed.
func TestOpenMemory(t *testing.T) {
	u := with(3, 3, 3)
	u.Ins[0].Witness = []string{"\x00\x05\x00", "more"}
	before := told(u)
	cut := u
	cut.Ins = u.Ins[:2]
	wantOpen(t, three(), cut, 2, api.ErrArg)
	wantOpen(t, three(), cut, 0, api.ErrLock)
	if told(u) != before {
		t.Errorf("P8.3: Open left %s of %s", told(u), before)
	}
	whole := u.Ins[0].Witness
	u.Ins[0].Witness = whole[:1]
	wantOpen(t, three(), u, 0, api.OK)
	u.Ins[0].Witness = whole[:0]
	wantOpen(t, three(), u, 0, api.ErrLock)
	if whole[0] != "\x00\x05\x00" || whole[1] != "more" {
		t.Errorf("P8.3: Open left %q of the Witness", whole)
	}
}

func pick[T any](r *rand.Rand, l []T) T { return l[r.Intn(len(l))] }

// randomLock: small numbers, so that they often meet those of a transaction.
func randomLock(r *rand.Rand) []api.Branch {
	l := make([]api.Branch, 1+r.Intn(3))
	for i := range l {
		l[i] = api.Branch{Tag: uint16(r.Intn(3)), Delay: uint16(r.Intn(2) * r.Intn(5)), Height: uint32(r.Intn(2) * r.Intn(8))}
	}
	return l
}

// randomSpend: a transaction with up to three Ins, one of which is signed for a branch by a tag.
func randomSpend(r *rand.Rand, branch int, tag uint16) (api.Tx, int) {
	few := []uint32{0, 1, 2, 3, 4, 5, 65535, 65536, 65538, 1 << 31, 1<<31 + 4, final - 2, final - 1, final, final}
	u := api.Tx{Version: pick(r, []uint32{0, 1, 2, 2, 2, 3, math.MaxUint32}), LockTime: uint32(r.Intn(10)), Ins: make([]api.In, 1+r.Intn(3))}
	for i := range u.Ins {
		u.Ins[i] = api.In{Sequence: pick(r, few), Witness: signedBy(r.Intn(4), uint16(r.Intn(3)))}
	}
	in := r.Intn(len(u.Ins))
	u.Ins[in].Witness = signedBy(branch, tag)
	return u, in
}

func TestOpenRandom(t *testing.T) {
	r := rand.New(rand.NewSource(83))
	seen := [api.ErrEarly + 1]int{}
	for range 20000 {
		l, branch, tag := randomLock(r), r.Intn(4), uint16(r.Intn(3))
		u, in := randomSpend(r, branch, tag)
		want := openOf(l, branch, tag, u, in)
		wantOpen(t, scriptOf(l...), u, in, want)
		seen[want]++
	}
	if seen[api.OK] < 1000 || seen[api.ErrLock] < 1000 || seen[api.ErrEarly] < 1000 {
		t.Errorf("P8.3: tried too seldom: %v", seen)
	}
}
