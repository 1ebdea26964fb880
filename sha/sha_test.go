package sha_test

import (
	"crypto/sha256"
	"encoding/hex"
	"math/rand"
	"slices"
	"strconv"
	"strings"
	"testing"

	"kedge/sha"
)

// digestOf a text, by the library.
func digestOf(s string) string {
	d := sha256.Sum256([]byte(s))
	return string(d[:])
}

// wantDigests holds what Sum and Twice answer against the library.
func wantDigests(t *testing.T, name, s string) {
	t.Helper()
	once := digestOf(s)
	if d := sha.Sum(s); d != once {
		t.Errorf("P4.1: Sum of %s (%d bytes) is %x, not %x", name, len(s), d, once)
	}
	if d := sha.Twice(s); d != digestOf(once) {
		t.Errorf("P4.1: Twice of %s (%d bytes) is %x, not %x", name, len(s), d, digestOf(once))
	}
}

// lengths: each up to some blocks, and those about the ends of further ones, where the padding needs a block more.
func lengths() []int {
	var l []int
	for n := range 321 {
		l = append(l, n)
	}
	for _, blocks := range []int{8, 15, 16, 63, 64, 128, 512, 1024} {
		for off := -10; off <= 10; off++ {
			l = append(l, blocks*64+off)
		}
	}
	// About the lengths whose bits need a byte more.
	for _, n := range []int{1 << 13, 1 << 16, 1 << 21} {
		l = append(l, n-1, n, n+1)
	}
	return l
}

// mixed: a text of that length whose bytes hang on the seed.
func mixed(seed int64, length int) string {
	b := make([]byte, length)
	rand.New(rand.NewSource(seed)).Read(b)
	return string(b)
}

func TestDigestsWrittenOut(t *testing.T) {
	for _, c := range []struct{ s, want string }{
		{"", "e3b0c442 98fc1c14 9afbf4c8 996fb924 27ae41e4 649b934c a495991b 7852b855"},
		{"abc", "ba7816bf 8f01cfea 414140de 5dae2223 b00361a3 96177a9c b410ff61 f20015ad"},
		{"abcdbcdecdefdefgefghfghighijhijkijkljklmklmnlmnomnopnopq",
			"248d6a61 d20638b8 e5c02693 0c3e6039 a33ce459 64ff2167 f6ecedd4 19db06c1"},
		{"abcdefghbcdefghicdefghijdefghijkefghijklfghijklmghijklmnhijklmnoijklmnopjklmnopqklmnopqrlmnopqrsmnopqrstnopqrstu",
			"cf5b16a7 78af8380 036ce59e 7b049237 0b249b11 e8f07a51 afac4503 7afee9d1"},
		{strings.Repeat("a", 1000000), "cdc76e5c 9914fb92 81a1c7e2 84d73e67 f1809a48 a497200e 046d39cc c7112cd0"},
	} {
		want := strings.ReplaceAll(c.want, " ", "")
		if d := hex.EncodeToString([]byte(sha.Sum(c.s))); d != want {
			t.Errorf("P4.1: Sum of %d bytes (%.24q) is %s, not %s", len(c.s), c.s, d, want)
		}
	}
}

func TestTwiceWrittenOut(t *testing.T) {
	for _, c := range []struct{ s, want string }{
		{"", "5df6e0e2761359d30a8275058e299fcc0381534545f55cf43e41983f5d4c9456"},
		{"abc", "4f8b42c22dd3729b519ba6f68d2da7cc5b2d606d05daed5ad5128cc03e6c6358"},
		{"hello", "9595c9df90075148eb06860365df33584b75bff782a510c6cd4883a419833d50"},
	} {
		if d := hex.EncodeToString([]byte(sha.Twice(c.s))); d != c.want {
			t.Errorf("P4.1: Twice of %q is %s, not %s", c.s, d, c.want)
		}
	}
}

func TestLengths(t *testing.T) {
	for i, n := range lengths() {
		wantDigests(t, "mixed bytes", mixed(int64(i), n))
		wantDigests(t, "noughts", strings.Repeat("\x00", n))
		wantDigests(t, "bytes 255", strings.Repeat("\xff", n))
	}
}

// TestTextsThatLookPadded: what padding is made of may stand in a text as well.
func TestTextsThatLookPadded(t *testing.T) {
	for n := range 130 {
		wantDigests(t, "bytes 128", strings.Repeat("\x80", n))
		wantDigests(t, "a byte 128 behind noughts", strings.Repeat("\x00", n)+"\x80")
		wantDigests(t, "noughts behind a byte 128", "\x80"+strings.Repeat("\x00", n))
		wantDigests(t, "a length behind noughts", "abc\x80"+strings.Repeat("\x00", n)+"\x18")
	}
}

func TestOneByte(t *testing.T) {
	for x := range 256 {
		wantDigests(t, "one byte", string([]byte{byte(x)}))
	}
}

// TestEachByteCounts turns every bit of a text of some blocks about.
func TestEachByteCounts(t *testing.T) {
	s := []byte(mixed(7, 200))
	for i := range s {
		for bit := range 8 {
			s[i] ^= 1 << bit
			wantDigests(t, "a bit turned about", string(s))
			s[i] ^= 1 << bit
		}
	}
}

func TestOtherLetters(t *testing.T) {
	for _, s := range []string{"äöü", "日本語", "\xc3", "\xed\xa0\x80", "a\x00b", "\r\n", strings.Repeat("é", 32), strings.Repeat("é", 28)} {
		wantDigests(t, strconv.Quote(s), s)
	}
}

// TestPiecesOfATextAlone: nothing of a text around the piece that is handed in counts.
func TestPiecesOfATextAlone(t *testing.T) {
	s := mixed(9, 400)
	for from := 0; from < 130; from += 7 {
		for to := from; to < len(s); to += 11 {
			wantDigests(t, "a piece", s[from:to])
		}
	}
}

func TestLongText(t *testing.T) {
	if testing.Short() {
		t.Skip("half a gibibyte")
	}
	// From 2^29 bytes on the length in bits is more than a word of 32 bits holds.
	part, parts := strings.Repeat("\x01", 1<<20), 1<<9
	byParts := sha256.New()
	for range parts {
		byParts.Write([]byte(part))
	}
	if d, want := sha.Sum(strings.Repeat(part, parts)), string(byParts.Sum(nil)); d != want {
		t.Errorf("P4.1: Sum of 2^29 bytes is %x, not %x", d, want)
	}
}

func TestTwiceIsSumOfSum(t *testing.T) {
	for i, n := range lengths() {
		s := mixed(int64(i)+1000, n)
		if d := sha.Twice(s); len(d) != 32 || d != sha.Sum(sha.Sum(s)) || d == sha.Sum(s) {
			t.Errorf("P4.1: Twice of %d bytes is %x", n, d)
		}
	}
}

// TestNothingIsKept: a digest is the same whatever was asked ahead of it.
func TestNothingIsKept(t *testing.T) {
	var first []string
	for n := range 200 {
		first = append(first, sha.Sum(mixed(1, n)))
	}
	for n := range slices.Backward(first) {
		if d := sha.Sum(mixed(1, n)); d != first[n] {
			t.Errorf("P4.1: Sum of %d bytes is %x, and %x ahead of that", n, d, first[n])
		}
	}
}
