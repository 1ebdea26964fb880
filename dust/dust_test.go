package dust_test

import (
	"math"
	"strings"
	"testing"

	"kedge/api"
	"kedge/dust"
)

// good: how many bytes a Script may have.
func good() []int {
	var l []int
	for n := range 41 {
		l = append(l, n)
	}
	return l
}

// tooLong: lengths of Scripts from one more than the limit on; about 253 and 2^16 the bytes of a length would change.
func tooLong() []int {
	return []int{41, 42, 80, 127, 128, 251, 252, 253, 254, 255, 256, 257, 295, 296, 297, 65535, 65536, 65537, 65576, 1 << 24}
}

// values: every kind of int.
func values() []int {
	return []int{0, 1, 2, 227, 228, 229, 254, 255, 256, 347, 348, 349, 546, 100000, api.MaxMoney - 1, api.MaxMoney, api.MaxMoney + 1, 1 << 31, 1 << 32,
		1<<32 + 100, 1 << 62, math.MaxInt - 1, math.MaxInt, -1, -2, -228, -255, -1 << 31, -1 << 32, -api.MaxMoney, math.MinInt + 1, math.MinInt}
}

// out with a Value, and a Script of so many bytes.
func out(value, length int) api.Out {
	return api.Out{Value: value, Script: strings.Repeat("s", length)}
}

// leastOf a Script of so many bytes: 3 for each of its bytes, and of 8, 1 and 67 more.
func leastOf(length int) int { return 3 * (length + 76) }

func wantSize(t *testing.T, o api.Out, want int, code api.Errno) {
	t.Helper()
	if n, e := dust.Size(o); n != want || e != code {
		t.Errorf("P9.1: Size of %d and %d bytes is %d, %d, not %d, %d", o.Value, len(o.Script), n, e, want, code)
	}
}

func wantLeast(t *testing.T, o api.Out, want int, code api.Errno) {
	t.Helper()
	if n, e := dust.Least(o); n != want || e != code {
		t.Errorf("P9.1: Least of %d and %d bytes is %d, %d, not %d, %d", o.Value, len(o.Script), n, e, want, code)
	}
}

func wantDust(t *testing.T, promise string, o api.Out, want bool) {
	t.Helper()
	if dust.Dust(o) != want {
		t.Errorf("%s: Dust of %d and %d bytes is not %v", promise, o.Value, len(o.Script), want)
	}
}

func TestExample(t *testing.T) {
	wantLeast(t, out(0, 9), 255, api.OK)
}

func TestWrittenOut(t *testing.T) {
	for _, x := range []struct{ length, size, least int }{
		{0, 9, 228},
		{1, 10, 231},
		{2, 11, 234},
		{9, 18, 255},
		{17, 26, 279},
		{22, 31, 294},
		{25, 34, 303},
		{34, 43, 330},
		{39, 48, 345},
		{40, 49, 348},
	} {
		wantSize(t, out(0, x.length), x.size, api.OK)
		wantLeast(t, out(0, x.length), x.least, api.OK)
	}
}

// TestValuesMakeNoDifference to how many bytes an output has, and to its least value.
func TestValuesMakeNoDifference(t *testing.T) {
	for _, value := range values() {
		for _, n := range good() {
			wantSize(t, out(value, n), 9+n, api.OK)
			wantLeast(t, out(value, n), leastOf(n), api.OK)
		}
	}
}

func TestTooLong(t *testing.T) {
	for _, n := range tooLong() {
		script := strings.Repeat("s", n)
		for _, value := range values() {
			o := api.Out{Value: value, Script: script}
			wantSize(t, o, 0, api.ErrLong)
			wantLeast(t, o, 0, api.ErrLong)
			wantDust(t, "P9.2", o, false)
		}
	}
}

// TestScriptsAreBytes: what a Script says makes no difference, nor whether its bytes are runes.
func TestScriptsAreBytes(t *testing.T) {
	for _, part := range []string{"s", "\x00", "\xff", "\xfd", "é", "ﬁ", "\xf0\x9f\x98\x80", "\n"} {
		for n := range 45 {
			o := api.Out{Script: strings.Repeat(part, n)}
			if length := len(part) * n; length <= 40 {
				wantSize(t, o, 9+length, api.OK)
				wantLeast(t, o, leastOf(length), api.OK)
				wantDust(t, "P9.2", o, true)
			} else {
				wantSize(t, o, 0, api.ErrLong)
				wantLeast(t, o, 0, api.ErrLong)
				wantDust(t, "P9.2", o, false)
			}
		}
	}
}

func TestDust(t *testing.T) {
	for _, n := range good() {
		for _, value := range values() {
			wantDust(t, "P9.2", out(value, n), value < leastOf(n))
		}
	}
}

// TestLeastIsNoDust goes by what Least answers, and by what is written out.
func TestLeastIsNoDust(t *testing.T) {
	for _, n := range good() {
		least, e := dust.Least(out(0, n))
		if e != api.OK {
			t.Errorf("P9.3: Least of %d bytes: %d", n, e)
		}
		for _, edge := range []int{least, leastOf(n)} {
			wantDust(t, "P9.3", out(edge-2, n), true)
			wantDust(t, "P9.3", out(edge-1, n), true)
			wantDust(t, "P9.3", out(edge, n), false)
			wantDust(t, "P9.3", out(edge+1, n), false)
			if again, e := dust.Least(out(edge, n)); again != edge || e != api.OK {
				t.Errorf("P9.3: Least of %d bytes with %d is %d, %d", n, edge, again, e)
			}
		}
	}
}
