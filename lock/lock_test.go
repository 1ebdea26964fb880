package lock_test

import (
	"encoding/binary"
	"encoding/hex"
	"fmt"
	"math"
	"slices"
	"strings"
	"testing"

	"kedge/api"
	"kedge/lock"
)

// final: the Sequence by which an In asks for no LockTime, written out.
const final = 4294967295

// bytesOf: what is written in hexadecimal, with blanks between.
func bytesOf(t *testing.T, digits string) string {
	t.Helper()
	b, err := hex.DecodeString(strings.ReplaceAll(digits, " ", ""))
	if err != nil {
		t.Fatal(err)
	}
	return string(b)
}

func in1(n int) string { return string([]byte{byte(n)}) }

func in2(n uint16) string { return string(binary.LittleEndian.AppendUint16(nil, n)) }

func in4(n uint32) string { return string(binary.LittleEndian.AppendUint32(nil, n)) }

// scriptOf branches by the chapter's words, whatever they are.
func scriptOf(l ...api.Branch) string {
	s := in1(len(l))
	for _, b := range l {
		s += in2(b.Tag) + in2(b.Delay) + in4(b.Height)
	}
	return s
}

// signedBy: a witness by the chapter's words, whatever the branch is.
func signedBy(branch int, tag uint16) []string { return []string{in1(branch) + in2(tag)} }

// with Sequences, an In each: a transaction of Version 2, whose Ins are signed for branch 0 by tag 7.
func with(sequences ...uint32) api.Tx {
	u := api.Tx{Version: 2}
	for i, n := range sequences {
		p := api.Point{ID: fmt.Sprintf("%032d", i), Index: uint32(i)}
		u.Ins = append(u.Ins, api.In{From: p, Sequence: n, Witness: signedBy(0, 7)})
	}
	return u
}

// waitsOf: how many blocks an In waits, by the chapter's words.
func waitsOf(version, sequence uint32) int {
	if version >= 2 && sequence < 2147483648 {
		return int(sequence % 65536)
	}
	return 0
}

// sequences: about 2^16, 2^31 and 2^32 - 1, and ordinary ones.
func sequences() []uint32 {
	return []uint32{0, 1, 2, 3, 9, 10, 11, 65534, 65535, 65536, 65537, 65546, 131071, 131072, 131075, 1<<22 + 3, 1<<31 - 65536, 1<<31 - 2, 1<<31 - 1,
		1 << 31, 1<<31 + 1, 1<<31 + 3, 1<<31 + 65535, 1<<31 + 65536, 3 << 30, 4294967292, 4294967293, 4294967294, final}
}

func versions() []uint32 { return []uint32{0, 1, 2, 3, 1 << 31, math.MaxUint32} }

// farPlaces: ints at which a list of so many has nothing.
func farPlaces(length int) []int {
	return []int{length, length + 1, length + 255, 256, 65536, 1 << 32, 1<<32 + length - 1, math.MaxInt - 1, math.MaxInt,
		-1, -2, -length, -256, -1 << 32, math.MinInt + 1, math.MinInt}
}

// told: all that a transaction has, in a text.
func told(u api.Tx) string {
	var b strings.Builder
	fmt.Fprintf(&b, "Version %d LockTime %d", u.Version, u.LockTime)
	for _, in := range u.Ins {
		fmt.Fprintf(&b, " in %q %d %d %q", in.From.ID, in.From.Index, in.Sequence, in.Witness)
	}
	for _, out := range u.Outs {
		fmt.Fprintf(&b, " out %d %q", out.Value, out.Script)
	}
	return b.String()
}

func wantPut(t *testing.T, l []api.Branch, want string, code api.Errno) {
	t.Helper()
	if s, e := lock.Put(l); s != want || e != code {
		t.Errorf("P8.1: Put(%v) is %x, %d, not %x, %d", l, s, e, want, code)
	}
}

func wantGet(t *testing.T, s string, want []api.Branch, code api.Errno) {
	t.Helper()
	if l, e := lock.Get(s); !slices.Equal(l, want) || e != code {
		t.Errorf("P8.1: Get of %d bytes, %.60x, is %v, %d, not %v, %d", len(s), s, l, e, want, code)
	}
}

func wantSigned(t *testing.T, w []string, branch int, tag uint16, code api.Errno) {
	t.Helper()
	if n, g, e := lock.Signed(w); n != branch || g != tag || e != code {
		t.Errorf("P8.2: Signed(%.60q) is %d, %d, %d, not %d, %d, %d", w, n, g, e, branch, tag, code)
	}
}

func wantOpen(t *testing.T, script string, u api.Tx, in int, want api.Errno) {
	t.Helper()
	if e := lock.Open(script, u, in); e != want {
		t.Errorf("P8.3: Open of %x at %d is %d, not %d: %s", script, in, e, want, told(u))
	}
}

func wantRipe(t *testing.T, u api.Tx, in, coin, height int, want bool) {
	t.Helper()
	if ok := lock.Ripe(u, in, coin, height); ok != want {
		t.Errorf("P8.4: Ripe at %d of coin %d and height %d is %v, not %v: %s", in, coin, height, ok, want, told(u))
	}
}
