package wire_test

import (
	"bytes"
	"cmp"
	"encoding/binary"
	"math"
	"slices"
	"strings"
	"testing"

	"tesseract/api"
	"tesseract/wire"
)

// noise is bytes without a pattern, the same at each call.
func noise(seed, length int) []byte {
	b := make([]byte, length)
	x := uint32(seed)*2654435761 + 12345
	for i := range b {
		x = x*1664525 + 1013904223
		b[i] = byte(x >> 24)
	}
	return b
}

// form is a number as bytes: the library's numbers of changing length have this form when they are put.
func form(n int) []byte { return binary.AppendVarint(nil, int64(n)) }

// formOf is the number whose form b is, if there is one.
func formOf(b []byte) (int, bool) {
	n, used := binary.Varint(b)
	return int(n), used == len(b) && bytes.Equal(form(int(n)), b)
}

// begins is what GetInt is to answer: the number one of whose forms b begins with; else whether b is the beginning of a form that a last byte 1 ends.
func begins(b []byte) (int, int, api.Errno) {
	for used := 1; used <= min(len(b), 10); used++ {
		if n, ok := formOf(b[:used]); ok {
			return n, used, api.OK
		}
	}
	if _, ok := formOf(append(bytes.Clone(b), 1)); ok {
		return 0, 0, api.ErrShort
	}
	return 0, 0, api.ErrBytes
}

// someNumbers is numbers of each size: all small ones, those beside each power of two, of both signs, and some without a pattern.
func someNumbers() []int {
	l := []int{math.MinInt, math.MinInt + 1, math.MaxInt, math.MaxInt - 1, api.MaxValue, -api.MaxValue, api.MaxSum, -api.MaxSum}
	for n := -300; n <= 300; n++ {
		l = append(l, n)
	}
	for i := 8; i < 63; i++ {
		for d := -2; d <= 2; d++ {
			l = append(l, 1<<i+d, -(1<<i + d))
		}
	}
	for i := range 300 {
		l = append(l, int(binary.LittleEndian.Uint64(noise(i, 8)))>>(i%60))
	}
	return l
}

// someTexts is texts of lengths at which the length's own bytes are more, and some that are of no letters.
func someTexts() []string {
	l := []string{"", "a", "ab", "a/x", "\x00", "\xFF\x80", "é", strings.Repeat("\x80", 63)}
	for _, n := range []int{62, 63, 64, 65, 127, 128, 8191, 8192, 100000} {
		l = append(l, string(noise(n, n)))
	}
	return l
}

// P2.1: the examples, and each edge where a byte is added.
func TestPutIntOfEdges(t *testing.T) {
	for _, x := range []struct {
		n    int
		want []byte
	}{
		{0, []byte{0}},
		{-1, []byte{1}},
		{1, []byte{2}},
		{-2, []byte{3}},
		{63, []byte{126}},
		{-64, []byte{127}},
		{64, []byte{128, 1}},
		{-65, []byte{129, 1}},
		{65, []byte{130, 1}},
		{127, []byte{254, 1}},
		{-128, []byte{255, 1}},
		{128, []byte{128, 2}},
		{8191, []byte{254, 127}},
		{-8192, []byte{255, 127}},
		{8192, []byte{128, 128, 1}},
		{-8193, []byte{129, 128, 1}},
		{1<<62 - 1, []byte{254, 255, 255, 255, 255, 255, 255, 255, 127}},
		{-1 << 62, []byte{255, 255, 255, 255, 255, 255, 255, 255, 127}},
		{1 << 62, []byte{128, 128, 128, 128, 128, 128, 128, 128, 128, 1}},
		{-1<<62 - 1, []byte{129, 128, 128, 128, 128, 128, 128, 128, 128, 1}},
		{math.MaxInt, []byte{254, 255, 255, 255, 255, 255, 255, 255, 255, 1}},
		{math.MinInt, []byte{255, 255, 255, 255, 255, 255, 255, 255, 255, 1}},
	} {
		if got := wire.PutInt(nil, x.n); !bytes.Equal(got, x.want) {
			t.Errorf("PutInt(none, %d) is %v, not %v", x.n, got, x.want)
		}
		if n, used, e := wire.GetInt(x.want); n != x.n || used != len(x.want) || e != api.OK {
			t.Errorf("GetInt(%v) is %d, %d, %v", x.want, n, used, e)
		}
	}
}

// P2.1: numbers of each size.
func TestPutIntOfAllSizes(t *testing.T) {
	for n := -70000; n <= 70000; n++ {
		if got := wire.PutInt(nil, n); !bytes.Equal(got, form(n)) {
			t.Fatalf("PutInt(none, %d) is %v, not %v", n, got, form(n))
		}
	}
	for _, n := range someNumbers() {
		if got := wire.PutInt(nil, n); !bytes.Equal(got, form(n)) {
			t.Errorf("PutInt(none, %d) is %v, not %v", n, got, form(n))
		}
	}
}

// P2.1: a text's length counts bytes, not letters.
func TestPutText(t *testing.T) {
	for _, x := range []struct {
		s    string
		want []byte
	}{
		{"", []byte{0}},
		{"a", []byte{2, 97}},
		{"ab", []byte{4, 97, 98}},
		{"é", []byte{4, 0xC3, 0xA9}},
		{"\xFF\x00", []byte{4, 255, 0}},
	} {
		if got := wire.PutText(nil, x.s); !bytes.Equal(got, x.want) {
			t.Errorf("PutText(none, %q) is %v, not %v", x.s, got, x.want)
		}
	}
	for _, s := range someTexts() {
		want := append(form(len(s)), s...)
		if got := wire.PutText(nil, s); !bytes.Equal(got, want) {
			t.Errorf("a text of %d bytes: %d bytes, not %d, or others", len(s), len(got), len(want))
		}
	}
}

// P2.1 and R4: what is put stands behind b, of which no byte changes; room makes no difference, and nil and empty are one.
func TestPutStandsBehind(t *testing.T) {
	for _, length := range []int{0, 1, 2, 9, 100} {
		for _, room := range []int{0, 1, 2, 9, 10, 500} {
			for _, n := range []int{0, -1, 63, 64, 100000, math.MinInt, math.MaxInt} {
				checkBehind(t, length, room, form(n), func(b []byte) []byte { return wire.PutInt(b, n) })
			}
			for _, s := range []string{"", "a", strings.Repeat("xyz", 50)} {
				checkBehind(t, length, room, append(form(len(s)), s...), func(b []byte) []byte { return wire.PutText(b, s) })
			}
		}
	}
	for _, b := range [][]byte{nil, {}} {
		if !bytes.Equal(wire.PutInt(b, 64), []byte{128, 1}) || !bytes.Equal(wire.PutText(b, ""), []byte{0}) {
			t.Error("behind no byte")
		}
	}
}

// checkBehind puts something behind so many bytes, which have so much room behind them, and bytes ahead of them.
func checkBehind(t *testing.T, length, room int, put []byte, call func([]byte) []byte) {
	t.Helper()
	const ahead = 7
	all := noise(length+room, ahead+length+room)
	before := bytes.Clone(all)
	b := all[ahead : ahead+length : ahead+length+room]
	got := call(b)
	if want := append(bytes.Clone(before[ahead:ahead+length]), put...); !bytes.Equal(got, want) {
		t.Errorf("%d bytes with room for %d: %v, not %v", length, room, got, want)
	}
	if !bytes.Equal(all[:ahead+length], before[:ahead+length]) || len(b) != length {
		t.Errorf("%d bytes with room for %d: bytes of b changed", length, room)
	}
}

// P2.2: the examples, and the edges of each refusal.
func TestGetIntOfEdges(t *testing.T) {
	nine := bytes.Repeat([]byte{255}, 9)
	nought := bytes.Repeat([]byte{128}, 9)
	for _, x := range []struct {
		b       []byte
		n, used int
		errno   api.Errno
	}{
		{nil, 0, 0, api.ErrShort},
		{[]byte{}, 0, 0, api.ErrShort},
		{[]byte{0}, 0, 1, api.OK},
		{[]byte{0, 0}, 0, 1, api.OK},
		{[]byte{2, 9}, 1, 1, api.OK},
		{[]byte{1, 255, 255}, -1, 1, api.OK},
		{[]byte{128}, 0, 0, api.ErrShort},
		{[]byte{255}, 0, 0, api.ErrShort},
		{[]byte{128, 0}, 0, 0, api.ErrBytes},
		{[]byte{129, 0}, 0, 0, api.ErrBytes},
		{[]byte{128, 0, 1}, 0, 0, api.ErrBytes},
		{[]byte{128, 128, 0}, 0, 0, api.ErrBytes},
		{[]byte{128, 128}, 0, 0, api.ErrShort},
		{[]byte{128, 1, 0}, 64, 2, api.OK},
		{[]byte{128, 128, 1}, 8192, 3, api.OK},
		{nine, 0, 0, api.ErrShort},
		{nought, 0, 0, api.ErrShort},
		{append(bytes.Clone(nine), 1), math.MinInt, 10, api.OK},
		{append(bytes.Clone(nought), 1), 1 << 62, 10, api.OK},
		{append(bytes.Clone(nine), 1, 255), math.MinInt, 10, api.OK},
		{append(bytes.Clone(nine), 2), 0, 0, api.ErrBytes},
		{append(bytes.Clone(nine), 0), 0, 0, api.ErrBytes},
		{append(bytes.Clone(nought), 0), 0, 0, api.ErrBytes},
		{append(bytes.Clone(nought), 128), 0, 0, api.ErrBytes},
		{append(bytes.Clone(nine), 129), 0, 0, api.ErrBytes},
		{append(bytes.Clone(nine), 255, 255, 255), 0, 0, api.ErrBytes},
		{append(bytes.Clone(nine), 129, 1), 0, 0, api.ErrBytes},
		{append(bytes.Clone(nine[:8]), 127), -1 << 62, 9, api.OK},
		{append(bytes.Clone(nine[:8]), 0), 0, 0, api.ErrBytes},
	} {
		if n, used, e := wire.GetInt(x.b); n != x.n || used != x.used || e != x.errno {
			t.Errorf("GetInt(%v) is %d, %d, %v, not %d, %d, %v", x.b, n, used, e, x.n, x.used, x.errno)
		}
	}
}

// checkGet holds GetInt against begins; what is told to be a number must be put so again (P2.4: no other bytes say the same number).
func checkGet(t *testing.T, b []byte) {
	t.Helper()
	n, used, e := wire.GetInt(b)
	if wantN, wantUsed, want := begins(b); n != wantN || used != wantUsed || e != want {
		t.Fatalf("GetInt(%v) is %d, %d, %v, not %d, %d, %v", b, n, used, e, wantN, wantUsed, want)
	}
	if e == api.OK && !bytes.Equal(wire.PutInt(nil, n), b[:used]) {
		t.Fatalf("GetInt(%v) is %d, which is put as %v", b, n, wire.PutInt(nil, n))
	}
}

// P2.2 and P2.4: all texts of two bytes, of three with each edge for the third, and a tenth byte of each kind.
func TestGetIntOfAllShortBytes(t *testing.T) {
	for i := range 256 {
		checkGet(t, []byte{byte(i)})
		for j := range 256 {
			checkGet(t, []byte{byte(i), byte(j)})
			for _, k := range []byte{0, 1, 2, 127, 128, 129, 255} {
				checkGet(t, []byte{byte(i), byte(j), k})
			}
		}
	}
	for i := range 256 {
		for _, group := range []byte{128, 129, 170, 255} {
			nine := bytes.Repeat([]byte{group}, 9)
			checkGet(t, append(nine, byte(i)))
			checkGet(t, append(nine, byte(i), 1))
			checkGet(t, append(nine, byte(i), 0, 255))
			checkGet(t, append(nine[:8], byte(i)))
		}
	}
}

// P2.2 and P2.4: bytes without a pattern; most of them go on, so that long numbers come too.
func TestGetIntOfNoise(t *testing.T) {
	for seed := range 30000 {
		b := noise(seed, 1+seed%13)
		for i := range b[:seed%len(b)] {
			b[i] |= 128
		}
		if seed%3 == 0 && len(b) > 9 {
			b[9] &= 3
		}
		checkGet(t, b)
	}
}

// P2.2: a number that is cut off anywhere ends too soon.
func TestGetIntOfCutNumbers(t *testing.T) {
	for _, n := range someNumbers() {
		whole := wire.PutInt(nil, n)
		for i := range whole {
			if m, used, e := wire.GetInt(whole[:i]); m != 0 || used != 0 || e != api.ErrShort {
				t.Errorf("%d bytes of %v: %d, %d, %v", i, whole, m, used, e)
			}
		}
	}
}

// P2.4: what is put is got again, whatever stands behind.
func TestGetIntOfPutInt(t *testing.T) {
	behind := [][]byte{nil, {0}, {1}, {127}, {128}, {255}, {128, 0}, bytes.Repeat([]byte{255}, 12), noise(3, 20)}
	for _, n := range someNumbers() {
		whole := wire.PutInt(nil, n)
		for _, more := range behind {
			if m, used, e := wire.GetInt(append(bytes.Clone(whole), more...)); m != n || used != len(whole) || e != api.OK {
				t.Errorf("%d, and %v behind it: %d, %d, %v", n, more, m, used, e)
			}
		}
	}
}

// size is how far a number is from 0.
func size(n int) uint64 {
	if n < 0 {
		return -uint64(n)
	}
	return uint64(n)
}

// P2.4: a number of lesser size has no more bytes.
func TestLesserNumbersHaveNoMoreBytes(t *testing.T) {
	l := someNumbers()
	slices.SortFunc(l, func(a, b int) int {
		return cmp.Or(cmp.Compare(size(a), size(b)), cmp.Compare(len(form(a)), len(form(b))))
	})
	most, ahead := 0, 0 // of those of a lesser size
	for i, n := range l {
		got := len(wire.PutInt(nil, n))
		if i > 0 && size(n) > size(l[i-1]) {
			most = max(most, ahead)
		}
		if got < most || got > 10 {
			t.Errorf("%d has %d bytes, one of lesser size %d", n, got, most)
		}
		ahead = max(ahead, got)
	}
	if most != 10 || len(wire.PutInt(nil, 0)) != 1 {
		t.Errorf("most bytes: %d", most)
	}
}

// state is what a reader tells of itself: its place, whether it failed, and its end.
type state struct {
	at     int
	failed bool
	end    api.Errno
}

// stateOf asks twice: to ask changes nothing.
func stateOf(t *testing.T, r *wire.Reader) state {
	t.Helper()
	s := state{r.At(), r.Failed(), r.End()}
	if again := (state{r.At(), r.Failed(), r.End()}); again != s {
		t.Errorf("asked again: %v, not %v", again, s)
	}
	return s
}

// checkState holds what a reader tells of itself against what it is to tell.
func checkState(t *testing.T, what string, r *wire.Reader, want state) {
	t.Helper()
	if got := stateOf(t, r); got != want {
		t.Errorf("%s: %v, not %v", what, got, want)
	}
}

// P2.3: numbers and texts, one behind the other; bytes that are left are no lasting error.
func TestReaderReadsOn(t *testing.T) {
	r := wire.New([]byte{10, 4, 97, 98, 5, 0, 128, 1, 0})
	checkState(t, "at the beginning", r, state{0, false, api.ErrBytes})
	if n := r.Int(5, 5); n != 5 {
		t.Error("the first number:", n)
	}
	checkState(t, "behind the first number", r, state{1, false, api.ErrBytes})
	if s := r.Text(2); s != "ab" {
		t.Error("the first text:", s)
	}
	checkState(t, "behind the first text", r, state{4, false, api.ErrBytes})
	if n := r.Int(-3, 0); n != -3 {
		t.Error("the second number:", n)
	}
	if s := r.Text(0); s != "" {
		t.Error("the empty text:", s)
	}
	checkState(t, "behind the empty text", r, state{6, false, api.ErrBytes})
	if n := r.Int(0, 64); n != 64 {
		t.Error("the third number:", n)
	}
	checkState(t, "ahead of the last byte", r, state{8, false, api.ErrBytes})
	if n := r.Int(math.MinInt, math.MaxInt); n != 0 {
		t.Error("the last number:", n)
	}
	checkState(t, "at the end", r, state{9, false, api.OK})
	if n := r.Int(0, 0); n != 0 {
		t.Error("behind the end:", n)
	}
	checkState(t, "behind the end", r, state{9, true, api.ErrShort})
}

// P2.3: the example New(4 97 98).
func TestReaderExample(t *testing.T) {
	r := wire.New([]byte{4, 97, 98})
	if s := r.Text(3); s != "ab" || r.End() != api.OK {
		t.Error("the text:", s, r.End())
	}
	if s := r.Text(3); s != "" {
		t.Error("behind the end:", s)
	}
	checkState(t, "behind the end", r, state{3, true, api.ErrShort})
}

// P2.3: the number is least or most, or just beyond.
func TestReaderIntBounds(t *testing.T) {
	for _, n := range someNumbers() {
		for _, x := range []struct {
			least, most int
			ok          bool
		}{
			{n, n, true},
			{math.MinInt, n, true},
			{n, math.MaxInt, true},
			{math.MinInt, math.MaxInt, true},
			{math.MinInt, n - 1, n == math.MinInt},
			{n + 1, math.MaxInt, n == math.MaxInt},
			{n + 1, n - 1, false},
			{math.MaxInt, math.MinInt, false},
		} {
			checkInt(t, n, x.least, x.most, x.ok)
		}
	}
}

// checkInt reads a number with a byte ahead of it and one behind it.
func checkInt(t *testing.T, n, least, most int, ok bool) {
	t.Helper()
	r := wire.New(append(wire.PutInt([]byte{0}, n), 0))
	r.Int(0, 0)
	want, told := 0, state{1, true, api.ErrBytes}
	if ok {
		want, told = n, state{1 + len(form(n)), false, api.ErrBytes}
	}
	if got := r.Int(least, most); got != want {
		t.Errorf("%d, from %d to %d: %d", n, least, most, got)
	}
	if got := stateOf(t, r); got != told {
		t.Errorf("%d, from %d to %d: %v, not %v", n, least, most, got, told)
	}
}

// P2.3: the place stays, and the error is GetInt's, where the bytes are no number's, whatever may be read.
func TestReaderIntOfNoNumber(t *testing.T) {
	for _, b := range [][]byte{nil, {128}, {128, 0}, {128, 128}, bytes.Repeat([]byte{255}, 9), bytes.Repeat([]byte{255}, 10), append(bytes.Repeat([]byte{128}, 9), 2)} {
		_, _, want := wire.GetInt(b)
		for _, x := range [][2]int{{0, 0}, {math.MinInt, math.MaxInt}, {1, -1}, {5, 9}} {
			r := wire.New(append([]byte{8}, b...))
			if n := r.Int(4, 4); n != 4 {
				t.Fatal("the number ahead:", n)
			}
			if n := r.Int(x[0], x[1]); n != 0 {
				t.Errorf("%v: %d", b, n)
			}
			checkState(t, "no number", r, state{1, true, want})
		}
		r := wire.New(b)
		if s := r.Text(math.MaxInt); s != "" {
			t.Errorf("%v: %q", b, s)
		}
		checkState(t, "no text's length", r, state{0, true, want})
	}
}

// P2.3: texts of just the most bytes, of one more, and cut off anywhere.
func TestReaderText(t *testing.T) {
	for _, s := range someTexts() {
		whole := wire.PutText([]byte{0}, s)
		for _, most := range []int{len(s) - 1, len(s), len(s) + 1, math.MaxInt, -1, math.MinInt} {
			r := wire.New(append(bytes.Clone(whole), 7))
			r.Int(0, 0)
			want, told := "", state{1, true, api.ErrBytes}
			if most >= len(s) {
				want, told = s, state{len(whole), false, api.ErrBytes}
			}
			if got := r.Text(most); got != want {
				t.Errorf("%d bytes, at most %d: %d bytes, or others", len(s), most, len(got))
			}
			checkState(t, "a text", r, told)
		}
		for _, i := range []int{1, 2, len(whole) / 2, len(whole) - 1} {
			if i >= len(whole) || i < 1 {
				continue
			}
			r := wire.New(whole[:i])
			r.Int(0, 0)
			if got := r.Text(math.MaxInt); got != "" {
				t.Errorf("%d bytes of %d: %q", i, len(whole), got)
			}
			checkState(t, "a text that is cut off", r, state{1, true, api.ErrShort})
		}
	}
}

// P2.3: a length that is wrong is told ahead of bytes that are not there.
func TestReaderTextOfWrongLength(t *testing.T) {
	for _, x := range []struct {
		length, most int
		want         api.Errno
	}{
		{-1, 5, api.ErrBytes},
		{-1, math.MaxInt, api.ErrBytes},
		{math.MinInt, math.MaxInt, api.ErrBytes},
		{0, -1, api.ErrBytes},
		{6, 5, api.ErrBytes},
		{math.MaxInt, 5, api.ErrBytes},
		{5, 5, api.ErrShort},
		{4, 4, api.ErrShort},
		{math.MaxInt, math.MaxInt, api.ErrShort},
		{math.MaxInt - 1, math.MaxInt, api.ErrShort},
		{1 << 31, math.MaxInt, api.ErrShort},
		{1 << 32, math.MaxInt, api.ErrShort},
	} {
		r := wire.New(append(form(x.length), "xyz"...))
		if s := r.Text(x.most); s != "" {
			t.Errorf("a length %d, at most %d: %q", x.length, x.most, s)
		}
		checkState(t, "a wrong length", r, state{0, true, x.want})
	}
}

// P2.3: behind an error each call answers 0, or the empty text, and nothing changes: the first error stays.
func TestReaderBehindAnError(t *testing.T) {
	for _, x := range []struct {
		what string
		b    []byte
		fail func(r *wire.Reader)
		want api.Errno
	}{
		{"Bad", []byte{2, 0, 0}, func(r *wire.Reader) { r.Bad() }, api.ErrBytes},
		{"Bad, at the end", nil, func(r *wire.Reader) { r.Bad() }, api.ErrBytes},
		{"Int, at the end", nil, func(r *wire.Reader) { r.Int(0, 1) }, api.ErrShort},
		{"Int, too short", []byte{128}, func(r *wire.Reader) { r.Int(0, 1) }, api.ErrShort},
		{"Int, no number", []byte{128, 0, 0}, func(r *wire.Reader) { r.Int(0, 1) }, api.ErrBytes},
		{"Int, too great", []byte{4, 0, 0}, func(r *wire.Reader) { r.Int(0, 1) }, api.ErrBytes},
		{"Int, too small", []byte{0, 0, 0}, func(r *wire.Reader) { r.Int(1, 2) }, api.ErrBytes},
		{"Int, of no bounds", []byte{0, 0, 0}, func(r *wire.Reader) { r.Int(1, -1) }, api.ErrBytes},
		{"Text, at the end", nil, func(r *wire.Reader) { r.Text(1) }, api.ErrShort},
		{"Text, no length", []byte{128}, func(r *wire.Reader) { r.Text(1) }, api.ErrShort},
		{"Text, too short", []byte{6, 97, 98}, func(r *wire.Reader) { r.Text(3) }, api.ErrShort},
		{"Text, too long", []byte{4, 97, 98}, func(r *wire.Reader) { r.Text(1) }, api.ErrBytes},
		{"Text, below 0", []byte{1, 0, 0}, func(r *wire.Reader) { r.Text(1) }, api.ErrBytes},
		{"Text, no number", []byte{128, 0, 0}, func(r *wire.Reader) { r.Text(1) }, api.ErrBytes},
	} {
		r := wire.New(x.b)
		x.fail(r)
		checkState(t, x.what, r, state{0, true, x.want})
		for range 2 {
			askBehindAnError(t, x.what, r)
			checkState(t, x.what+", and more calls", r, state{0, true, x.want})
		}
	}
}

// askBehindAnError calls all that reads, and Bad.
func askBehindAnError(t *testing.T, what string, r *wire.Reader) {
	t.Helper()
	for _, x := range [][2]int{{math.MinInt, math.MaxInt}, {1, 0}, {0, 5}} {
		if n := r.Int(x[0], x[1]); n != 0 {
			t.Errorf("%s: then Int is %d", what, n)
		}
		if s := r.Text(x[1]); s != "" {
			t.Errorf("%s: then Text is %q", what, s)
		}
	}
	r.Bad()
}

// P2.3: an error that is not at the beginning: the place is told where it was.
func TestReaderErrorsFurtherOn(t *testing.T) {
	r := wire.New([]byte{4, 97, 98, 2, 2})
	if r.Text(2) != "ab" || r.Int(1, 1) != 1 {
		t.Fatal("ahead of the error")
	}
	if n := r.Int(2, 9); n != 0 {
		t.Error("a number that is too small:", n)
	}
	checkState(t, "too small", r, state{4, true, api.ErrBytes})
	r = wire.New([]byte{4, 97, 98, 2, 2})
	r.Text(2)
	r.Bad()
	if n := r.Int(1, 1); n != 0 {
		t.Error("behind Bad:", n)
	}
	checkState(t, "behind Bad", r, state{3, true, api.ErrBytes})
}

// P2.3: bytes left at End are no error that stays.
func TestReaderEndKeepsNothing(t *testing.T) {
	r := wire.New([]byte{2})
	checkState(t, "a byte left", r, state{0, false, api.ErrBytes})
	if n := r.Int(0, 1); n != 1 {
		t.Error("behind End:", n)
	}
	checkState(t, "none left", r, state{1, false, api.OK})
	for _, b := range [][]byte{nil, {}} {
		checkState(t, "no byte", wire.New(b), state{0, false, api.OK})
	}
}

// P2.3 and R4: a reader has bytes of its own, and doesn't touch those that were handed in.
func TestReaderHasBytesOfItsOwn(t *testing.T) {
	around := append(append(noise(1, 16), 10, 4, 97, 98, 128, 1), noise(2, 64)...)
	before := bytes.Clone(around)
	r := wire.New(around[16:22])
	if r.Int(0, 9) != 5 || !bytes.Equal(around, before) {
		t.Error("the first number, or bytes handed in that changed")
	}
	for i := range around {
		around[i] = 255
	}
	if s := r.Text(2); s != "ab" {
		t.Errorf("behind a change: %q", s)
	}
	clear(around)
	if n := r.Int(0, 64); n != 64 || r.End() != api.OK {
		t.Error("behind a second change:", n, r.End())
	}
	for _, x := range around {
		if x != 0 {
			t.Fatal("bytes handed in changed")
		}
	}
}

// R5: two readers of the same bytes are two.
func TestReadersAreApart(t *testing.T) {
	b := []byte{2, 4, 97, 98}
	one, other := wire.New(b), wire.New(b)
	if one.Int(0, 1) != 1 || other.At() != 0 {
		t.Error("one reads, the other goes on")
	}
	one.Bad()
	if other.Failed() || other.Int(0, 1) != 1 || other.Text(2) != "ab" || other.End() != api.OK {
		t.Error("one is bad, the other too")
	}
}

// R4: GetInt changes nothing, and place and room make no difference (R5).
func TestGetIntLeavesBytes(t *testing.T) {
	for _, n := range someNumbers() {
		whole := form(n)
		around := append(append(noise(1, 5), whole...), noise(2, 20)...)
		before := bytes.Clone(around)
		for _, b := range [][]byte{around[5 : 5+len(whole)], around[5 : 5+len(whole) : 5+len(whole)], around[5:]} {
			if m, used, e := wire.GetInt(b); m != n || used != len(whole) || e != api.OK {
				t.Errorf("%d: %d, %d, %v", n, m, used, e)
			}
		}
		for i := range whole {
			if m, used, e := wire.GetInt(around[5 : 5+i]); m != 0 || used != 0 || e != api.ErrShort {
				t.Errorf("%d, the rest of it in the spare room: %d, %d, %v", n, m, used, e)
			}
		}
		if !bytes.Equal(around, before) {
			t.Errorf("%d: bytes changed", n)
		}
	}
}

// R4: a reader reads nothing of the spare room of what was handed in.
func TestReaderLeavesSpareRoom(t *testing.T) {
	all := []byte{6, 97, 98, 99, 128, 1}
	r := wire.New(all[:3])
	if s := r.Text(3); s != "" || r.End() != api.ErrShort {
		t.Errorf("a text in the spare room: %q, %v", s, r.End())
	}
	r = wire.New(all[:5])
	if r.Text(3) != "abc" || r.Int(0, 99) != 0 || r.End() != api.ErrShort {
		t.Error("a number in the spare room")
	}
}

// model is a reader as P2.3 tells it, over begins.
type model struct {
	b     []byte
	at    int
	errno api.Errno
}

func (m *model) number(least, most int) (int, int) {
	if m.errno != api.OK {
		return 0, 0
	}
	n, used, e := begins(m.b[m.at:])
	if e == api.OK && !(least <= n && n <= most) {
		e = api.ErrBytes
	}
	if e != api.OK {
		m.errno = e
		return 0, 0
	}
	return n, used
}

func (m *model) text(most int) string {
	n, used := m.number(0, most)
	if m.errno != api.OK {
		return ""
	}
	if n > len(m.b)-m.at-used {
		m.errno = api.ErrShort
		return ""
	}
	s := string(m.b[m.at+used : m.at+used+n])
	m.at += used + n
	return s
}

func (m *model) state() state {
	if m.errno == api.OK && m.at != len(m.b) {
		return state{m.at, false, api.ErrBytes}
	}
	return state{m.at, m.errno != api.OK, m.errno}
}

// P2.3 and R1: calls without a pattern, at bytes without one, answer what the model answers.
func TestReaderOfNoise(t *testing.T) {
	bounds := []int{0, 1, 5, 20, 63, 64, -1, -64, 1 << 40, math.MaxInt, math.MinInt}
	for seed := range 5000 {
		b := noise(seed, seed%60)
		for i := range b {
			if seed%4 > 0 && i%3 > 0 {
				b[i] %= 16
			}
		}
		r, m := wire.New(b), &model{b: b}
		for step, c := range noise(seed+7, 24) {
			least, most := bounds[int(c)%len(bounds)], bounds[int(c)/16%len(bounds)]
			switch {
			case c%5 < 3:
				n, used := m.number(least, most)
				m.at += used
				if got := r.Int(least, most); got != n {
					t.Fatalf("%v, step %d: Int is %d, not %d", b, step, got, n)
				}
			case c%5 == 3 || step < 12:
				if got, want := r.Text(most), m.text(most); got != want {
					t.Fatalf("%v, step %d: Text is %q, not %q", b, step, got, want)
				}
			default:
				r.Bad()
				if m.errno == api.OK {
					m.errno = api.ErrBytes
				}
			}
			if got := stateOf(t, r); got != m.state() {
				t.Fatalf("%v, step %d: %v, not %v", b, step, got, m.state())
			}
		}
	}
}

// P2.4: what is put one behind the other is read again, with no byte left, and, cut off, ends too soon.
func TestReaderReadsWhatWasPut(t *testing.T) {
	numbers, texts := someNumbers(), someTexts()
	var b []byte
	for i, n := range numbers {
		b = wire.PutText(wire.PutInt(b, n), texts[i%len(texts)])
	}
	read := func(b []byte) *wire.Reader {
		r := wire.New(b)
		for i, n := range numbers {
			got, s := r.Int(math.MinInt, math.MaxInt), r.Text(math.MaxInt)
			if !r.Failed() && (got != n || s != texts[i%len(texts)]) {
				t.Fatalf("the %dth: %d and %d bytes, not %d and %d", i, got, len(s), n, len(texts[i%len(texts)]))
			}
		}
		return r
	}
	checkState(t, "all", read(b), state{len(b), false, api.OK})
	for _, cut := range []int{1, 2, 5, len(b) / 2, len(b) - 1} {
		if r := read(b[:len(b)-cut]); !r.Failed() || r.End() != api.ErrShort {
			t.Errorf("%d bytes cut off: %v", cut, r.End())
		}
	}
}
