package crc

import (
	"bytes"
	"hash/crc32"
	"math/rand"
	"slices"
	"testing"

	"monticule/api"
)

// samples are byte sequences of all short lengths, and of some greater ones.
func samples() [][]byte {
	random := rand.New(rand.NewSource(2))
	l := [][]byte{nil, {}, {0}, {0, 0, 0, 0}, {255}, {255, 255, 255, 255}, []byte("123456789")}
	for n := range 70 {
		b := make([]byte, n)
		random.Read(b)
		l = append(l, b)
	}
	for _, n := range []int{255, 256, 257, 4000, 65536} {
		b := make([]byte, n)
		random.Read(b)
		l = append(l, b)
	}
	return l
}

// described is the checksum by the words of the chapter, bit by bit.
func described(b []byte) uint32 {
	register := uint32(0xFFFFFFFF)
	for _, x := range b {
		for bit := range 8 {
			different := register&1 ^ uint32(x>>bit)&1
			register >>= 1
			if different == 1 {
				register ^= 0xEDB88320
			}
		}
	}
	return ^register
}

// P2.1: the examples of the chapter, and known checksums.
func TestSumExamples(t *testing.T) {
	for _, x := range []struct {
		text string
		want uint32
	}{
		{"", 0},
		{"123456789", 0xCBF43926},
		{"a", 0xE8B7BE43},
		{"abc", 0x352441C2},
		{"\x00", 0xD202EF8D},
		{"\x00\x00\x00\x00", 0x2144DF1C},
		{"\xff", 0xFF000000},
		{"\xff\xff\xff\xff", 0xFFFFFFFF},
		{"The quick brown fox jumps over the lazy dog", 0x414FA339},
	} {
		if got := Sum([]byte(x.text)); got != x.want {
			t.Errorf("%q: %08X, not %08X", x.text, got, x.want)
		}
	}
}

// P2.1: the checksum is that of the chapter's words, which is Ethernet's.
func TestSumAsDescribed(t *testing.T) {
	for _, b := range samples() {
		got := Sum(b)
		if want := described(b); got != want {
			t.Errorf("%d bytes: %08X, not %08X", len(b), got, want)
		}
		if want := crc32.ChecksumIEEE(b); got != want {
			t.Errorf("%d bytes: %08X, Ethernet's is %08X", len(b), got, want)
		}
	}
	for x := range 256 {
		if got, want := Sum([]byte{byte(x)}), crc32.ChecksumIEEE([]byte{byte(x)}); got != want {
			t.Errorf("byte %d: %08X, not %08X", x, got, want)
		}
	}
}

// P2.1: no arguments, or empty ones, are no bytes.
func TestSumOfNothing(t *testing.T) {
	for i, parts := range [][][]byte{nil, {}, {nil}, {{}}, {nil, {}, nil}} {
		if got := Sum(parts...); got != 0 {
			t.Errorf("case %d: %08X", i, got)
		}
	}
}

// P2.1: it does not matter how the bytes are divided into arguments.
func TestSumOfParts(t *testing.T) {
	b := []byte("123456789")
	const want = 0xCBF43926
	for i := range len(b) + 1 {
		for j := i; j <= len(b); j++ {
			if got := Sum(b[:i], b[i:j], b[j:]); got != want {
				t.Errorf("divided at %d and %d: %08X", i, j, got)
			}
		}
	}
	var single [][]byte
	for i := range b {
		single = append(single, b[i:i+1], nil)
	}
	if got := Sum(single...); got != want {
		t.Errorf("single bytes: %08X", got)
	}
	if Sum(b[5:], b[:5]) == want {
		t.Error("the order of the arguments does not matter")
	}
}

// P2.1: a sealed sequence is its contents, then the checksum, the least significant byte first.
func TestSeal(t *testing.T) {
	for _, x := range []struct{ text, want string }{
		{"", "\x00\x00\x00\x00"},
		{"abc", "abc\xc2\x41\x24\x35"},
		{"123456789", "123456789\x26\x39\xf4\xcb"},
		{"\xff", "\xff\x00\x00\x00\xff"},
	} {
		if got := Seal([]byte(x.text)); string(got) != x.want {
			t.Errorf("%q: %x, not %x", x.text, got, x.want)
		}
	}
	if got := Seal(nil); string(got) != "\x00\x00\x00\x00" {
		t.Errorf("nil: %x", got)
	}
}

// P2.1: Open takes off the checksum.
func TestOpen(t *testing.T) {
	for _, x := range []struct{ sealed, want string }{
		{"\x00\x00\x00\x00", ""},
		{"abc\xc2\x41\x24\x35", "abc"},
		{"123456789\x26\x39\xf4\xcb", "123456789"},
		{"\xff\x00\x00\x00\xff", "\xff"},
	} {
		if got, err := Open([]byte(x.sealed)); err != api.OK || string(got) != x.want {
			t.Errorf("%x: %q, %v", x.sealed, got, err)
		}
	}
}

// P2.1: fewer than four bytes are too short, whatever they are.
func TestOpenShort(t *testing.T) {
	for _, b := range [][]byte{nil, {}, {0}, {0, 0}, {0, 0, 0}, {255, 255, 255}, []byte("abc")} {
		if got, err := Open(b); err != api.ErrShort || len(got) != 0 {
			t.Errorf("%x: %x, %v", b, got, err)
		}
	}
	// What lies behind the end of the slice does not belong to it.
	if got, err := Open(make([]byte, 3, 8)); err != api.ErrShort || len(got) != 0 {
		t.Errorf("spare capacity: %x, %v", got, err)
	}
}

// P2.1: four bytes are the checksum of no bytes, which is 0.
func TestOpenFourBytes(t *testing.T) {
	for _, b := range []string{"\x01\x00\x00\x00", "\x00\x00\x00\x01", "\xff\xff\xff\xff", "abcd"} {
		if got, err := Open([]byte(b)); err != api.ErrSum || len(got) != 0 {
			t.Errorf("%x: %x, %v", b, got, err)
		}
	}
}

// P2.1: a wrong checksum is refused, and nothing is returned beside the error.
func TestOpenWrongSum(t *testing.T) {
	for _, b := range []string{
		"abc\x35\x24\x41\xc2", // the most significant byte first
		"abc\x3d\xbe\xdb\xca", // not inverted
		"abd\xc2\x41\x24\x35", // other contents
		"abc\xc2\x41\x24\x36",
		"abc\xc2\x41\x24",
		"abc\xc2\x41\x24\x35\x00",
		"\x00\x00\x00\x00\x00",
		"abc\x00\x00\x00\x00",
	} {
		if got, err := Open([]byte(b)); err != api.ErrSum || len(got) != 0 {
			t.Errorf("%x: %x, %v", b, got, err)
		}
	}
}

// P2.1: Open agrees only with exactly what Seal returns.
func TestOpenOnlySealed(t *testing.T) {
	random := rand.New(rand.NewSource(3))
	for range 20000 {
		b := make([]byte, 4+random.Intn(3))
		for i := range b {
			b[i] = []byte{0, 1, 255, 0x8D, 0xEF, 0x02, 0xD2}[random.Intn(7)]
		}
		sealed := slices.Equal(Seal(b[:len(b)-4]), b)
		got, err := Open(b)
		if sealed && (err != api.OK || !bytes.Equal(got, b[:len(b)-4])) {
			t.Fatalf("%x is sealed: %x, %v", b, got, err)
		}
		if !sealed && (err != api.ErrSum || len(got) != 0) {
			t.Fatalf("%x is not sealed: %x, %v", b, got, err)
		}
	}
}

// P2.2: Open of Seal returns the contents.
func TestOpenOfSeal(t *testing.T) {
	for _, b := range samples() {
		sealed := Seal(b)
		if len(sealed) != len(b)+4 {
			t.Errorf("%d bytes: %d sealed", len(b), len(sealed))
		}
		if got, err := Open(sealed); err != api.OK || !bytes.Equal(got, b) {
			t.Errorf("%d bytes: %v", len(b), err)
		}
		twice, err := Open(Seal(sealed))
		if err != api.OK || !bytes.Equal(twice, sealed) {
			t.Errorf("%d bytes, sealed twice: %v", len(b), err)
		}
	}
}

// flip changes the bits of pattern in b, from bit start on, the lowest bit of a byte first.
func flip(b []byte, start int, pattern uint32) {
	for i := range 32 {
		if pattern>>i&1 == 1 {
			b[(start+i)/8] ^= 1 << ((start + i) % 8)
		}
	}
}

// refuses tells whether Open finds the changed bits of the pattern.
func refuses(sealed []byte, start int, pattern uint32) bool {
	flip(sealed, start, pattern)
	got, err := Open(sealed)
	flip(sealed, start, pattern)
	return err == api.ErrSum && len(got) == 0
}

// P2.2: a change of at most 32 consecutive bits is detected, wherever it is.
func TestChangedBits(t *testing.T) {
	random := rand.New(rand.NewSource(4))
	patterns := []uint32{0xFFFFFFFF, 0x80000001, 0xEDB88320, 0xDB710641, 0x04C11DB7, 0x55555555}
	for n := range 32 {
		patterns = append(patterns, 1<<n, 1<<n|1, 1<<n-1|1<<n, 1<<n|1|random.Uint32()&(1<<n-1))
	}
	for range 60 {
		patterns = append(patterns, random.Uint32()|1)
	}
	for _, size := range []int{0, 1, 2, 3, 4, 5, 9, 40} {
		b := make([]byte, size)
		random.Read(b)
		sealed := Seal(b)
		for _, pattern := range patterns {
			for start := range 8*len(sealed) - 31 {
				if !refuses(sealed, start, pattern) {
					t.Fatalf("%d bytes, pattern %08X at bit %d", size, pattern, start)
				}
			}
		}
		if got, err := Open(sealed); err != api.OK || !bytes.Equal(got, b) {
			t.Fatalf("%d bytes, unchanged: %v", size, err)
		}
	}
}

// P2.2: each single bit counts, the first and the last ones of a long sequence too.
func TestChangedBitOfLongSequence(t *testing.T) {
	sealed := Seal(bytes.Repeat([]byte("monticule"), 400))
	last := 8*len(sealed) - 32
	for _, start := range []int{0, 1, 7, 8, last / 2, last - 32, last - 31, last - 1, last} {
		for bit := range 32 {
			if !refuses(sealed, start, 1<<bit) {
				t.Errorf("bit %d", start+bit)
			}
		}
	}
}

// roomy is a copy of text with spare capacity, which is filled with marks.
func roomy(text string) []byte {
	b := append([]byte(text), bytes.Repeat([]byte("*"), 16)...)
	return b[:len(text)]
}

// untouched tells whether b is still what roomy made of text.
func untouched(b []byte, text string) bool {
	return string(b) == text && string(b[:len(text)+16]) == text+"****************"
}

// P2.2: arguments are not changed, and neither is their spare capacity.
func TestArgumentsStay(t *testing.T) {
	for _, text := range []string{"", "abc", "\x00\x00\x00\x00", "abc\xc2\x41\x24\x35", "abd\xc2\x41\x24\x35"} {
		b := roomy(text)
		Sum(b, b[:0], b)
		if !untouched(b, text) {
			t.Errorf("Sum: %q", b)
		}
		Seal(b)
		if !untouched(b, text) {
			t.Errorf("Seal: %q", b)
		}
		Open(b)
		if !untouched(b, text) {
			t.Errorf("Open: %q", b)
		}
	}
	first, second := []byte("12345"), []byte("6789")
	parts := [][]byte{first, nil, second, []byte("behind")}
	Sum(parts[:3]...)
	if &parts[0][0] != &first[0] || parts[1] != nil || &parts[2][0] != &second[0] || string(parts[3]) != "behind" {
		t.Errorf("the list of arguments: %q", parts)
	}
}

// wipe changes all bytes of b, and those of its spare capacity.
func wipe(b []byte) {
	all := b[:cap(b)]
	for i := range all {
		all[i] = '#'
	}
}

// P2.2: results are new memory: they stay when the argument changes, and the argument stays when they do.
func TestResultsAreNew(t *testing.T) {
	b := roomy("abc")
	sealed := Seal(b)
	wipe(sealed)
	if !untouched(b, "abc") {
		t.Errorf("Seal shares: %q", b)
	}
	sealed = Seal(b)
	wipe(b)
	if string(sealed) != "abc\xc2\x41\x24\x35" {
		t.Errorf("Seal keeps its argument: %q", sealed)
	}
	for _, text := range []string{"", "abc"} {
		whole := string(Seal([]byte(text)))
		b = roomy(whole)
		contents, _ := Open(b)
		wipe(contents)
		if !untouched(b, whole) {
			t.Errorf("Open shares: %q", b)
		}
		contents, _ = Open(b)
		wipe(b)
		if string(contents) != text {
			t.Errorf("Open keeps its argument: %q", contents)
		}
	}
}

// P2.2: two results share no memory, and a call does not depend on the ones before it.
func TestCallsAreIndependent(t *testing.T) {
	first, second := Seal([]byte("abc")), Seal([]byte("abc"))
	wipe(first)
	if string(second) != "abc\xc2\x41\x24\x35" {
		t.Errorf("%q", second)
	}
	one, _ := Open(second)
	wipe(one)
	if two, err := Open(second); err != api.OK || string(two) != "abc" {
		t.Errorf("%q, %v", two, err)
	}
	Sum([]byte("before"))
	if got := Sum([]byte("123456789")); got != 0xCBF43926 {
		t.Errorf("%08X", got)
	}
}
