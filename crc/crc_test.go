package crc_test

import (
	"bytes"
	"hash/crc32"
	"strconv"
	"strings"
	"testing"

	"tesseract/crc"
)

// noise is bytes without a pattern, the same at each call.
func noise(seed, length int) []byte {
	b := make([]byte, length)
	x := uint32(seed)*2654435761 + 12345
	for i := range b {
		x = x*1664525 + 1013904223
		b[i] = byte(x >> 24)
	}
	return b
}

// withSum is data and, behind it, its sum, as P1.2 asks it.
func withSum(data []byte) []byte {
	s := crc32.ChecksumIEEE(data)
	return append(bytes.Clone(data), byte(s), byte(s>>8), byte(s>>16), byte(s>>24))
}

// P1.1, and the first of the ten examples of the whole.
func TestSumOfExamples(t *testing.T) {
	for _, x := range []struct {
		data string
		want uint32
	}{
		{"", 0},
		{"123456789", 0xCBF43926},
		{"\x00", 0xD202EF8D},
		{"\xFF", 0xFF000000},
		{"a", 0xE8B7BE43},
		{"\x00\x00\x00\x00", 0x2144DF1C},
		{"\xFF\xFF\xFF\xFF", 0xFFFFFFFF},
	} {
		if got := crc.Sum([]byte(x.data)); got != x.want {
			t.Errorf("Sum(%q) is %08X, not %08X", x.data, got, x.want)
		}
		if got := crc.More(0, []byte(x.data)); got != x.want {
			t.Errorf("More(0, %q) is %08X, not %08X", x.data, got, x.want)
		}
	}
}

// P1.1: the library's sum of this kind is reckoned by a table, so it shares no step with More.
func TestSumsOfAllBytesAndLengths(t *testing.T) {
	for n := range 256 {
		one := []byte{byte(n)}
		if got, want := crc.Sum(one), crc32.ChecksumIEEE(one); got != want {
			t.Errorf("the byte %d: %08X, not %08X", n, got, want)
		}
	}
	for n := range 300 {
		data := noise(n, n)
		if got, want := crc.Sum(data), crc32.ChecksumIEEE(data); got != want {
			t.Errorf("%d bytes: %08X, not %08X", n, got, want)
		}
	}
	long := noise(7, 1<<20+3)
	if got, want := crc.Sum(long), crc32.ChecksumIEEE(long); got != want {
		t.Errorf("%d bytes: %08X, not %08X", len(long), got, want)
	}
}

// someSums is sums to begin from: those with one bit, their opposites, and the edges.
func someSums() []uint32 {
	l := []uint32{0, 0xFFFFFFFF, 0xCBF43926, 0xEDB88320, 0x01020304}
	for i := range 32 {
		l = append(l, 1<<i, ^uint32(1<<i))
	}
	return l
}

// P1.1: More begins from any sum.
func TestMoreBeginsFromAnySum(t *testing.T) {
	for _, sum := range someSums() {
		for n := range 40 {
			data := noise(n, n)
			if got, want := crc.More(sum, data), crc32.Update(sum, crc32.IEEETable, data); got != want {
				t.Errorf("More(%08X, %d bytes) is %08X, not %08X", sum, n, got, want)
			}
		}
	}
}

// P1.1: no byte changes no sum; nil and empty are one (R4).
func TestMoreOfNoByte(t *testing.T) {
	for _, sum := range someSums() {
		if got := crc.More(sum, nil); got != sum {
			t.Errorf("More(%08X, nil) is %08X", sum, got)
		}
		if got := crc.More(sum, []byte{}); got != sum {
			t.Errorf("More(%08X, empty) is %08X", sum, got)
		}
	}
}

// P1.2: the lowest byte is the first.
func TestBytes(t *testing.T) {
	for _, x := range []struct {
		sum  uint32
		want []byte
	}{
		{0, []byte{0, 0, 0, 0}},
		{1, []byte{1, 0, 0, 0}},
		{0x01020304, []byte{4, 3, 2, 1}},
		{0xCBF43926, []byte{0x26, 0x39, 0xF4, 0xCB}},
		{0x80000000, []byte{0, 0, 0, 0x80}},
		{0xFFFFFFFF, []byte{255, 255, 255, 255}},
	} {
		if got := crc.Bytes(x.sum); !bytes.Equal(got, x.want) {
			t.Errorf("Bytes(%08X) is %v, not %v", x.sum, got, x.want)
		}
	}
	for i := range 32 {
		want := make([]byte, 4)
		want[i/8] = 1 << (i % 8)
		if got := crc.Bytes(1 << i); !bytes.Equal(got, want) {
			t.Errorf("bit %d is at %v, not at %v", i, got, want)
		}
	}
}

// P1.2: bytes that end with their sum.
func TestWholeBytes(t *testing.T) {
	for n := range 100 {
		data := noise(n, n)
		if !crc.Whole(withSum(data)) {
			t.Errorf("%d bytes with their sum are not whole", n)
		}
		if !crc.Whole(append(bytes.Clone(data), crc.Bytes(crc.Sum(data))...)) {
			t.Errorf("%d bytes with Bytes of Sum are not whole", n)
		}
	}
	if long := noise(3, 1<<20); !crc.Whole(withSum(long)) {
		t.Error("many bytes with their sum are not whole")
	}
}

// P1.2: fewer than four bytes are never whole, four just if all are 0.
func TestWholeOfFewBytes(t *testing.T) {
	for n := range 4 {
		for _, x := range []byte{0, 1, 0x80, 255} {
			if crc.Whole(bytes.Repeat([]byte{x}, n)) {
				t.Errorf("%d bytes %d are whole", n, x)
			}
		}
	}
	if crc.Whole(nil) {
		t.Error("nil is whole")
	}
	if !crc.Whole([]byte{0, 0, 0, 0}) {
		t.Error("four bytes 0 are not whole")
	}
	for i := range 32 {
		four := make([]byte, 4)
		four[i/8] = 1 << (i % 8)
		if crc.Whole(four) {
			t.Errorf("%v is whole", four)
		}
	}
	if crc.Whole([]byte{0, 0, 0, 0, 0}) || !crc.Whole([]byte{0, 0x8D, 0xEF, 0x02, 0xD2}) {
		t.Error("a single byte 0")
	}
}

// P1.2: bytes that don't end with their sum.
func TestWholeRefusesOthers(t *testing.T) {
	for _, n := range []int{1, 2, 3, 4, 5, 9, 64} {
		data := noise(n, n)
		good := withSum(data)
		s := good[n:]
		wrong := map[string][]byte{
			"without a sum":          data,
			"the first byte cut off": good[1:],
			"the last byte cut off":  good[:n+3],
			"a byte more":            append(bytes.Clone(good), 0),
			"a byte ahead":           append([]byte{1}, good...),
			"the highest byte first": append(bytes.Clone(data), s[3], s[2], s[1], s[0]),
			"the sum ahead":          append(bytes.Clone(s), data...),
			"the sum turned over":    append(bytes.Clone(data), ^s[0], ^s[1], ^s[2], ^s[3]),
			"the sum of all of it":   append(bytes.Clone(data), crc.Bytes(crc.Sum(good))...),
			"the sum of fewer bytes": append(bytes.Clone(data), crc.Bytes(crc.Sum(data[1:]))...),
			"four bytes 0 for a sum": append(bytes.Clone(data), 0, 0, 0, 0),
		}
		for what, b := range wrong {
			if crc.Whole(b) {
				t.Errorf("%d bytes, %s: whole", n, what)
			}
		}
	}
}

// P1.3: wherever the bytes are parted.
func TestSumInParts(t *testing.T) {
	for _, n := range []int{0, 1, 2, 9, 40} {
		data := noise(n, n)
		want := crc.Sum(data)
		for i := range n + 1 {
			head := crc.Sum(data[:i])
			if got := crc.More(head, data[i:]); got != want {
				t.Errorf("%d bytes, %d of them ahead: %08X, not %08X", n, i, got, want)
			}
			for j := i; j <= n; j++ {
				if got := crc.More(crc.More(head, data[i:j]), data[j:]); got != want {
					t.Errorf("%d bytes, parted at %d and %d: %08X, not %08X", n, i, j, got, want)
				}
			}
		}
	}
	if crc.More(crc.Sum([]byte("1234")), []byte("56789")) != 0xCBF43926 {
		t.Error("1234, then 56789")
	}
}

// turned is b with the bits of pattern turned, from the bit at on: the bits of a byte from the lowest on.
func turned(b []byte, at int, pattern uint32) []byte {
	c := bytes.Clone(b)
	for i := range 32 {
		if pattern>>i&1 == 1 {
			c[(at+i)/8] ^= 1 << ((at + i) % 8)
		}
	}
	return c
}

// patterns is some ways to turn bits of a window, the window's first and last one among them.
func patterns(width, seed int) []uint32 {
	last := uint32(1) << (width - 1)
	all := last | (last - 1)
	l := []uint32{1 | last, all, 0xAAAAAAAA&all | 1 | last, 0x55555555&all | 1 | last, 0xEDB88320&all | 1 | last}
	for _, x := range [][]byte{noise(seed, 4), noise(seed+width, 4)} {
		p := uint32(x[0]) | uint32(x[1])<<8 | uint32(x[2])<<16 | uint32(x[3])<<24
		l = append(l, p&all|1|last)
	}
	return l
}

// P1.4: windows of each width at each place: at the beginning, over the border, in the sum.
func TestTurnedBitsSideBySide(t *testing.T) {
	for _, n := range []int{0, 1, 2, 3, 4, 5, 9, 33} {
		for _, data := range [][]byte{noise(n, n), make([]byte, n), bytes.Repeat([]byte{255}, n)} {
			good := withSum(data)
			for width := 1; width <= 32; width++ {
				for at := 0; at+width <= 8*len(good); at++ {
					for _, p := range patterns(width, at) {
						if crc.Whole(turned(good, at, p)) {
							t.Fatalf("%d bytes, turned from bit %d on by %08X: whole", n, at, p)
						}
					}
				}
			}
		}
	}
}

// P1.4: each pattern of a short window, at each place.
func TestAllTurnedBitsOfShortWindows(t *testing.T) {
	good := withSum([]byte("123456789"))
	for at := range 8 * len(good) {
		for p := uint32(1); p < 1<<min(11, 8*len(good)-at); p++ {
			if crc.Whole(turned(good, at, p)) {
				t.Fatalf("turned from bit %d on by %08X: whole", at, p)
			}
		}
	}
}

// together is three texts of one length, put together by exclusive or.
func together(a, b, c []byte) []byte {
	all := make([]byte, len(a))
	for i := range all {
		all[i] = a[i] ^ b[i] ^ c[i]
	}
	return all
}

// P1.5: three others, one that is all 0, one that stands there twice.
func TestThreeTextsPutTogether(t *testing.T) {
	for _, n := range []int{0, 1, 2, 3, 4, 7, 32, 257} {
		for seed := range 20 {
			a, b, c := noise(seed, n), noise(seed+100, n), noise(seed+200, n)
			for _, third := range [][]byte{c, make([]byte, n), a} {
				want := crc.Sum(a) ^ crc.Sum(b) ^ crc.Sum(third)
				if got := crc.Sum(together(a, b, third)); got != want {
					t.Errorf("%d bytes: %08X, not %08X", n, got, want)
				}
			}
		}
	}
}

// askAll calls each function that is handed bytes.
func askAll(data []byte) (uint32, uint32, bool) {
	return crc.Sum(data), crc.More(0x12345678, data), crc.Whole(data)
}

// R4: neither the bytes handed in, nor those around them, nor their spare room change.
func TestHandedInStaysAsItIs(t *testing.T) {
	for n := range 40 {
		around := append(append(noise(1, 16), withSum(noise(n, n))...), noise(2, 64)...)
		before := bytes.Clone(around)
		data := around[16 : 16+n+4]
		askAll(data)
		askAll(data[:n])
		if !bytes.Equal(around, before) {
			t.Errorf("%d bytes: changed", n)
		}
	}
}

// R4: nothing of what is handed in is kept.
func TestHandedInIsNotKept(t *testing.T) {
	data := withSum([]byte("123456789"))
	sum, more, whole := askAll(data)
	same := bytes.Clone(data)
	clear(data)
	if s, m, w := askAll(same); s != sum || m != more || w != whole {
		t.Error("other answers, behind a change of what was handed in")
	}
	if crc.Sum(data) != crc32.ChecksumIEEE(data) {
		t.Error("the sum of what stood there before")
	}
}

// R4: what is answered is new memory.
func TestBytesAreNewMemory(t *testing.T) {
	a, b := crc.Bytes(0x01020304), crc.Bytes(0x01020304)
	clear(a)
	_ = append(a[:0], 9, 9, 9, 9, 9, 9, 9, 9)
	want := []byte{4, 3, 2, 1}
	if !bytes.Equal(b, want) || !bytes.Equal(crc.Bytes(0x01020304), want) {
		t.Error("answers share memory")
	}
}

// R4 and R5: nil and empty are one; place and spare room make no difference.
func TestPlaceAndRoomMakeNoDifference(t *testing.T) {
	if s, m, w := askAll(nil); s != 0 || m != 0x12345678 || w {
		t.Error("nil")
	}
	if s, m, w := askAll([]byte{}); s != 0 || m != 0x12345678 || w {
		t.Error("empty")
	}
	good := withSum(noise(5, 21))
	sum, more, whole := askAll(good)
	if !whole {
		t.Error("not whole")
	}
	for ahead := range 9 {
		for _, room := range []int{0, 1, 100} {
			all := append(append(noise(8, ahead), good...), noise(9, room)...)
			for what, data := range map[string][]byte{"with room": all[ahead : ahead+len(good)], "without": all[ahead : ahead+len(good) : ahead+len(good)]} {
				if s, m, w := askAll(data); s != sum || m != more || w != whole {
					t.Errorf("%d bytes ahead, %d behind, %s: other answers", ahead, room, what)
				}
			}
		}
	}
}

// R1: none panics, whatever text it is given.
func TestNonePanics(t *testing.T) {
	for n := range 70 {
		for _, x := range []string{"\x00", "\xFF", "a", "\xC3\x28", strconv.Itoa(n)} {
			data := []byte(strings.Repeat(x, n))
			if s, m, _ := askAll(data); s != crc32.ChecksumIEEE(data) || m != crc32.Update(0x12345678, crc32.IEEETable, data) {
				t.Errorf("%d times %q", n, x)
			}
		}
	}
}
