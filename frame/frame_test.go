package frame_test

import (
	"bytes"
	"encoding/binary"
	"hash/crc32"
	"math"
	"testing"

	"tesseract/api"
	"tesseract/frame"
)

const over = 9 // the bytes of a frame beside its body

// noise is bytes without a pattern, the same at each call.
func noise(seed, length int) []byte {
	b := make([]byte, length)
	x := uint32(seed)*2654435761 + 12345
	for i := range b {
		x = x*1664525 + 1013904223
		b[i] = byte(x >> 24)
	}
	return b
}

// join is lists of bytes, one behind the other, in new memory.
func join(l ...[]byte) []byte { return bytes.Join(l, nil) }

// signed is bytes, and the sum of them behind: the library's sum shares no step with package crc.
func signed(b []byte) []byte {
	return binary.LittleEndian.AppendUint32(bytes.Clone(b), crc32.ChecksumIEEE(b))
}

// saying is bytes of a frame's form that say the length said, whatever their body has, with a right sum.
func saying(said uint32, kind byte, body []byte) []byte {
	return signed(append(append(binary.LittleEndian.AppendUint32(nil, said), kind), body...))
}

// form is the frame of a kind and a body.
func form(kind int, body []byte) []byte { return saying(uint32(len(body)), byte(kind), body) }

// lengths is lengths of bodies: at the edges, and those whose length takes one, two and three bytes.
func lengths() []int {
	return []int{0, 1, 2, 3, 4, 5, 9, 127, 128, 255, 256, 257, 511, 4096, 65535, api.MaxBody}
}

// same tells whether two frames are one: a body nil and an empty one are.
func same(a, b frame.Frame) bool { return a.Kind == b.Kind && bytes.Equal(a.Body, b.Body) }

// checkPut asks Put, and holds the answer against what is wanted.
func checkPut(t *testing.T, b []byte, kind int, body, want []byte) {
	t.Helper()
	got, e := frame.Put(b, kind, body)
	if e != api.OK || !bytes.Equal(got, want) {
		t.Errorf("Put of %d bytes, kind %d, %d bytes: %d bytes and %v, not %d bytes, or others", len(b), kind, len(body), len(got), e, len(want))
	}
}

// checkGet asks Get, and holds the answer against a frame that is there.
func checkGet(t *testing.T, what string, b []byte, want frame.Frame) {
	t.Helper()
	f, n, e := frame.Get(b)
	if e != api.OK || n != over+len(want.Body) || !same(f, want) {
		t.Errorf("%s: kind %d, %d bytes of a body, %d bytes, %v", what, f.Kind, len(f.Body), n, e)
	}
}

// checkNone asks Get and Scan of bytes that begin with no frame: beside the error stands nothing (R2).
func checkNone(t *testing.T, what string, b []byte, want api.Errno) {
	t.Helper()
	if f, n, e := frame.Get(b); e != want || n != 0 || f.Kind != 0 || len(f.Body) != 0 {
		t.Errorf("%s: Get tells %d, %d bytes of a body, %d, %v, not %v", what, f.Kind, len(f.Body), n, e, want)
	}
	if len(b) > 0 {
		checkScan(t, what, b, nil, 0, want)
	}
}

// checkScan asks Scan, and holds each part of the answer against what is wanted.
func checkScan(t *testing.T, what string, b []byte, frames []frame.Frame, used int, errno api.Errno) {
	t.Helper()
	l, n, e := frame.Scan(b)
	if len(l) != len(frames) || n != used || e != errno {
		t.Fatalf("%s: %d frames, %d bytes, %v, not %d, %d, %v", what, len(l), n, e, len(frames), used, errno)
	}
	for i := range l {
		if !same(l[i], frames[i]) {
			t.Errorf("%s: the frame %d is kind %d with %d bytes", what, i, l[i].Kind, len(l[i].Body))
		}
	}
}

// P3.1: the example, byte by byte, and the smallest frames.
func TestPutOfExamples(t *testing.T) {
	for _, x := range []struct {
		kind int
		body string
		want []byte
	}{
		{7, "a", []byte{1, 0, 0, 0, 7, 97}},
		{0, "", []byte{0, 0, 0, 0, 0}},
		{255, "", []byte{0, 0, 0, 0, 255}},
		{1, "\x00\xFF", []byte{2, 0, 0, 0, 1, 0, 255}},
	} {
		want := signed(x.want)
		checkPut(t, nil, x.kind, []byte(x.body), want)
		checkPut(t, []byte{}, x.kind, []byte(x.body), want)
		if len(want) != over+len(x.body) {
			t.Errorf("the kind %d: %d bytes", x.kind, len(want))
		}
	}
}

// P3.1: each kind that may be, and those beside them.
func TestPutOfKinds(t *testing.T) {
	for kind := range 256 {
		for n := range 3 {
			checkPut(t, nil, kind, noise(kind, n), form(kind, noise(kind, n)))
		}
	}
	for _, kind := range []int{-1, 256, 257, 511, 512, -255, -256, 1 << 32, 1<<32 + 7, -1 << 32, math.MaxInt, math.MinInt} {
		for _, b := range [][]byte{nil, []byte("ahead")} {
			if got, e := frame.Put(b, kind, []byte("a")); len(got) != 0 || e != api.ErrArg {
				t.Errorf("the kind %d: %v, %v", kind, got, e)
			}
		}
	}
}

// P3.1: bodies of all lengths that need one, two or three bytes to be told, up to the greatest, and greater ones.
func TestPutOfLengths(t *testing.T) {
	for _, n := range lengths() {
		checkPut(t, nil, 9, noise(n, n), form(9, noise(n, n)))
	}
	whole, e := frame.Put(nil, 0, make([]byte, api.MaxBody))
	if e != api.OK || len(whole) != 65545 || !bytes.Equal(whole[:5], []byte{0, 0, 1, 0, 0}) {
		t.Errorf("a body of 65536 bytes: %d bytes, %v", len(whole), e)
	}
	for _, n := range []int{65537, 65538, 1 << 17, 1<<20 + 3} {
		for _, kind := range []int{0, 255, -1} {
			if got, e := frame.Put([]byte("ahead"), kind, make([]byte, n)); len(got) != 0 || e != api.ErrArg {
				t.Errorf("a body of %d bytes, kind %d: %d bytes, %v", n, kind, len(got), e)
			}
		}
	}
}

// P3.1: what stands ahead stays, and is not in the frame's sum.
func TestPutStandsBehind(t *testing.T) {
	for _, ahead := range [][]byte{{0}, []byte("ab"), form(3, []byte("xyz")), noise(1, 100), noise(2, 70000)} {
		for _, n := range []int{0, 1, 40} {
			checkPut(t, ahead, 5, noise(n, n), join(ahead, form(5, noise(n, n))))
		}
	}
}

// P3.1 and R4: neither the bytes, nor those around them, nor their spare room change, whatever the room; a refused call changes nothing, too.
func TestPutChangesNothing(t *testing.T) {
	for _, length := range []int{0, 1, 9, 50} {
		for _, room := range []int{0, 1, 4, 5, 9, 10, 11, 12, 13, 300} {
			around := noise(length+room, 7+length+room+5)
			before := bytes.Clone(around)
			b := around[7 : 7+length : 7+length+room]
			body := noise(3, 7+4)
			sameBody := bytes.Clone(body)
			checkPut(t, b, 8, body[3:7], join(before[7:7+length], form(8, sameBody[3:7])))
			frame.Put(b, 256, body[3:7])
			frame.Put(b, 0, make([]byte, api.MaxBody+1))
			if !bytes.Equal(around, before) || !bytes.Equal(body, sameBody) {
				t.Errorf("%d bytes with room for %d: what was handed in changed", length, room)
			}
		}
	}
}

// P3.1 and R4: the body may stand in the bytes' own spare room, or be a piece of them.
func TestPutOfBodyInTheSameMemory(t *testing.T) {
	for at := range 30 {
		all := noise(at, 60)
		before := bytes.Clone(all)
		for _, x := range [][2][]byte{{all[:20], all[at : at+25]}, {all[:0], all[at : at+25]}, {all, all[at:]}, {all[at:], all}} {
			want := join(x[0], form(4, x[1]))
			checkPut(t, x[0], 4, x[1], want)
			if !bytes.Equal(all, before) {
				t.Fatalf("the body at %d: what was handed in changed", at)
			}
		}
	}
}

// R4: what Put tells is new memory: two frames behind the same bytes, and a change of one, or of what was handed in.
func TestPutIsNewMemory(t *testing.T) {
	for _, room := range []int{0, 100} {
		b := append(make([]byte, 0, 4+room), "base"...)
		body := []byte("body")
		one, _ := frame.Put(b, 1, body)
		two, _ := frame.Put(b, 2, body)
		wantOne, wantTwo := join([]byte("base"), form(1, body)), join([]byte("base"), form(2, body))
		if !bytes.Equal(one, wantOne) || !bytes.Equal(two, wantTwo) {
			t.Errorf("room %d: two frames share memory", room)
		}
		clear(b[:cap(b)])
		clear(body)
		clear(two[:cap(two)])
		if !bytes.Equal(one, wantOne) {
			t.Errorf("room %d: what was told changed", room)
		}
		clear(one[:cap(one)])
		checkPut(t, []byte("base"), 1, []byte("body"), wantOne)
	}
}

// P3.2: frames of all kinds and lengths, with nothing or something behind.
func TestGetOfFrames(t *testing.T) {
	behind := [][]byte{nil, {0}, {255}, []byte("ab"), form(1, []byte("next")), noise(4, 100)}
	for kind := range 256 {
		body := noise(kind, kind%20)
		for _, rest := range behind {
			checkGet(t, "a kind", join(form(kind, body), rest), frame.Frame{Kind: kind, Body: body})
		}
	}
	for _, n := range lengths() {
		for _, rest := range behind {
			checkGet(t, "a length", join(form(n%256, noise(n, n)), rest), frame.Frame{Kind: n % 256, Body: noise(n, n)})
		}
	}
}

// P3.2: fewer than 4 bytes, whatever they are.
func TestGetOfFewBytes(t *testing.T) {
	checkNone(t, "nil", nil, api.ErrShort)
	checkNone(t, "empty", []byte{}, api.ErrShort)
	for n := 1; n < 4; n++ {
		for x := range 256 {
			checkNone(t, "few bytes", bytes.Repeat([]byte{byte(x)}, n), api.ErrShort)
		}
	}
}

// P3.2: a length above MaxBody is told ahead of all else: with no byte behind, with all of it and a right sum, with a wrong one.
func TestGetOfGreatLengths(t *testing.T) {
	said := []uint32{65537, 65538, 1<<16 | 1<<8, 1 << 17, 1 << 24, 1<<24 | 1, 1 << 31, 1<<31 - 1, 1<<32 - 9, 1<<32 - 5, 1<<32 - 1}
	for _, s := range said {
		four := binary.LittleEndian.AppendUint32(nil, s)
		for n := range 20 {
			checkNone(t, "a length above", join(four, noise(n, n)), api.ErrBytes)
		}
		checkNone(t, "a right sum", saying(s, 1, noise(1, 5)), api.ErrBytes)
	}
	great := saying(65537, 1, noise(1, 65537))
	checkNone(t, "a body of 65537 bytes", great, api.ErrBytes)
	great[len(great)-1] ^= 1
	checkNone(t, "a body of 65537 bytes, and a wrong sum", great, api.ErrBytes)
	checkNone(t, "a body of 65537 bytes, cut off", great[:100], api.ErrBytes)
	checkNone(t, "the greatest length, and no more", []byte{0, 0, 1, 0}, api.ErrShort)
	checkNone(t, "one above, and no more", []byte{1, 0, 1, 0}, api.ErrBytes)
}

// P3.2 and R5: a frame cut off at each place ends too soon, though the rest lies behind in the room, and though its sum would be wrong.
func TestGetOfCutFrames(t *testing.T) {
	for _, n := range []int{0, 1, 2, 30, 300} {
		whole := form(6, noise(n, n))
		wrong := bytes.Clone(whole)
		wrong[4] ^= 1
		for cut := range whole {
			checkNone(t, "cut off", bytes.Clone(whole[:cut]), api.ErrShort)
			checkNone(t, "cut off, with room", whole[:cut], api.ErrShort)
			checkNone(t, "wrong, and cut off", wrong[:cut], api.ErrShort)
		}
		checkNone(t, "wrong", wrong, api.ErrCRC)
	}
	greatest := form(6, noise(1, api.MaxBody))
	for _, cut := range []int{3, 4, 5, 8, 9, 65535, 65536, 65540, 65541, 65544} {
		checkNone(t, "the greatest frame, cut off", greatest[:cut], api.ErrShort)
	}
}

// P3.2: sums that are not right.
func TestGetOfWrongSums(t *testing.T) {
	for _, n := range []int{0, 1, 4, 5, 60} {
		body := noise(n, n)
		whole := form(6, body)
		ahead, s := whole[:5+n], whole[5+n:]
		part := func(b []byte) []byte {
			return join(ahead, binary.LittleEndian.AppendUint32(nil, crc32.ChecksumIEEE(b)))
		}
		for what, b := range map[string][]byte{
			"four bytes 0":             join(ahead, make([]byte, 4)),
			"the sum turned over":      join(ahead, []byte{^s[0], ^s[1], ^s[2], ^s[3]}),
			"the highest byte first":   join(ahead, []byte{s[3], s[2], s[1], s[0]}),
			"of the body alone":        part(body),
			"of the kind and the body": part(ahead[4:]),
			"of the length alone":      part(ahead[:4]),
			"of a byte 0 behind, too":  part(join(ahead, []byte{0})),
			"another kind":             join(ahead[:4], []byte{7}, body, s),
			"of bytes ahead, too":      part(join([]byte("x"), ahead)),
		} {
			checkNone(t, what, b, api.ErrCRC)
			checkNone(t, what, join(b, form(1, nil)), api.ErrCRC)
		}
	}
	checkNone(t, "a length that is one less", saying(1, 3, []byte("ab")), api.ErrCRC)
	checkNone(t, "a length that is one more", saying(3, 3, []byte("ab")), api.ErrShort)
	checkNone(t, "bytes 0", make([]byte, 100), api.ErrCRC)
	checkNone(t, "the sum of another one", join(form(1, []byte("ab"))[:7], form(1, []byte("ac"))[7:]), api.ErrCRC)
}

// row is some frames, and their bytes, one behind the other.
func row(seed, count int) ([]frame.Frame, []byte) {
	var l []frame.Frame
	var b []byte
	for i := range count {
		n := int(noise(seed+i, 1)[0]) % 24
		l = append(l, frame.Frame{Kind: (seed*31 + i*85) % 256, Body: noise(seed*7+i, n)})
		b = append(b, form(l[i].Kind, l[i].Body)...)
	}
	return l, b
}

// P3.3: the examples, one frame, and several.
func TestScanOfFrames(t *testing.T) {
	checkScan(t, "nil", nil, nil, 0, api.OK)
	checkScan(t, "empty", []byte{}, nil, 0, api.OK)
	checkScan(t, "1 0 0", []byte{1, 0, 0}, nil, 0, api.ErrShort)
	for count := range 30 {
		for seed := range 5 {
			l, b := row(seed, count)
			checkScan(t, "frames", b, l, len(b), api.OK)
		}
	}
	twice := form(0, nil)
	checkScan(t, "the same frame twice", join(twice, twice), []frame.Frame{{}, {}}, 18, api.OK)
	greatest := frame.Frame{Kind: 255, Body: noise(1, api.MaxBody)}
	b := form(255, greatest.Body)
	checkScan(t, "the greatest frame, between small ones", join(twice, b, twice), []frame.Frame{{}, greatest, {}}, len(b)+18, api.OK)
}

// P3.3: behind the last whole frame stands something that is none: the error is Get's, and what was told ahead stays.
func TestScanOfWhatIsNoFrame(t *testing.T) {
	wrong := form(9, []byte("wrong"))
	wrong[6] ^= 16
	good := form(1, []byte("good"))
	for count := range 6 {
		l, b := row(count, count)
		for _, x := range []struct {
			what   string
			behind []byte
			errno  api.Errno
		}{
			{"a byte 0", []byte{0}, api.ErrShort},
			{"three bytes", []byte{255, 255, 255}, api.ErrShort},
			{"four bytes 0", []byte{0, 0, 0, 0}, api.ErrShort},
			{"nine bytes 0", make([]byte, 9), api.ErrCRC},
			{"a length above", []byte{1, 0, 1, 0}, api.ErrBytes},
			{"a length above, and a frame", join([]byte{255, 255, 255, 255}, good), api.ErrBytes},
			{"a wrong frame", wrong, api.ErrCRC},
			{"a wrong frame, and a good one", join(wrong, good), api.ErrCRC},
			{"a wrong frame that is cut off", wrong[:len(wrong)-1], api.ErrShort},
			{"a frame that is too long", saying(65537, 0, make([]byte, 65537)), api.ErrBytes},
		} {
			checkScan(t, x.what, join(b, x.behind), l, len(b), x.errno)
			if _, _, e := frame.Get(x.behind); e != x.errno {
				t.Errorf("%s: Get tells %v", x.what, e)
			}
		}
	}
}

// P3.4: what Put puts one behind the other is told, and just that; cut off anywhere, those that are whole.
func TestScanOfWhatWasPutAndCutOff(t *testing.T) {
	for seed := range 12 {
		l, want := row(seed, seed)
		var b []byte
		ends := []int{0}
		for _, f := range l {
			var e api.Errno
			if b, e = frame.Put(b, f.Kind, f.Body); e != api.OK {
				t.Fatal(e)
			}
			ends = append(ends, len(b))
		}
		if !bytes.Equal(b, want) {
			t.Fatal("other bytes")
		}
		whole := 0
		for cut := range len(b) + 1 {
			errno := api.ErrShort
			if whole < len(l) && cut == ends[whole+1] {
				whole++
			}
			if cut == ends[whole] {
				errno = api.OK
			}
			checkScan(t, "cut off, with room", b[:cut], l[:whole], ends[whole], errno)
			checkScan(t, "cut off", bytes.Clone(b[:cut]), l[:whole], ends[whole], errno)
		}
	}
}

// turned is b with the bits of pattern turned, from the bit at on: the bits of a byte from the lowest on.
func turned(b []byte, at int, pattern uint32) []byte {
	c := bytes.Clone(b)
	for i := range 32 {
		if pattern>>i&1 == 1 {
			c[(at+i)/8] ^= 1 << ((at + i) % 8)
		}
	}
	return c
}

// patterns is some ways to turn bits of a window, its first and its last one among them.
func patterns(width, seed int) []uint32 {
	last := uint32(1) << (width - 1)
	all := last | (last - 1)
	l := []uint32{1 | last, all, 0xAAAAAAAA&all | 1 | last, 0xEDB88320&all | 1 | last}
	return append(l, binary.LittleEndian.Uint32(noise(seed, 4))&all|1|last)
}

// P3.5: windows of each width at each place behind the first four bytes: the kind, the body, over the border, the sum.
func TestTurnedBitsSideBySide(t *testing.T) {
	next := form(2, []byte("next"))
	for _, n := range []int{0, 1, 3, 20} {
		for _, body := range [][]byte{noise(n, n), make([]byte, n), bytes.Repeat([]byte{255}, n)} {
			whole := form(n*12, body)
			for width := 1; width <= 32; width++ {
				for at := 32; at+width <= 8*len(whole); at++ {
					for _, p := range patterns(width, at) {
						b := turned(whole, at, p)
						if f, used, e := frame.Get(b); e != api.ErrCRC || used != 0 || !same(f, frame.Frame{}) {
							t.Fatalf("%d bytes, turned from bit %d on by %08X: %v", n, at, p, e)
						}
					}
					b := turned(whole, at, 1|1<<(width-1))
					checkScan(t, "turned, ahead of a frame", join(b, next), nil, 0, api.ErrCRC)
					checkScan(t, "turned, behind a frame", join(next, b), []frame.Frame{{Kind: 2, Body: []byte("next")}}, len(next), api.ErrCRC)
				}
			}
		}
	}
}

// R4: Get's and Scan's bodies are new memory: they stay when what was handed in changes, and share none with one another.
func TestBodiesAreNewMemory(t *testing.T) {
	l, b := row(3, 12)
	handed := bytes.Clone(b)
	first, _, _ := frame.Get(handed)
	told, _, _ := frame.Scan(handed)
	again, _, _ := frame.Scan(handed)
	for i := range again {
		clear(again[i].Body[:cap(again[i].Body)])
		again[i] = frame.Frame{Kind: -1}
	}
	if !bytes.Equal(handed, b) {
		t.Error("bodies that were told share memory with what was handed in")
	}
	clear(handed)
	for i, f := range told {
		if !same(f, l[i]) {
			t.Errorf("the frame %d changed", i)
		}
		_ = append(f.Body, "much more than there was"...)
		clear(f.Body[:cap(f.Body)])
	}
	if !same(first, l[0]) {
		t.Error("Get's frame changed")
	}
	checkScan(t, "behind all changes", b, l, len(b), api.OK)
}

// R4: a body that grows does not grow into another one, nor into what was handed in.
func TestBodiesGrowAlone(t *testing.T) {
	l, b := row(5, 10)
	handed := bytes.Clone(b)
	told, _, _ := frame.Scan(handed)
	for i := range told {
		told[i].Body = append(told[i].Body, 1, 2, 3, 4, 5, 6, 7, 8, 9, 10)
	}
	for i, f := range told {
		if !bytes.Equal(f.Body, join(l[i].Body, []byte{1, 2, 3, 4, 5, 6, 7, 8, 9, 10})) {
			t.Errorf("the body %d is changed by another one", i)
		}
	}
	if !bytes.Equal(handed, b) {
		t.Error("what was handed in changed")
	}
}

// R4 and R5: reading changes nothing; the place of the bytes, and what stands around them, make no difference.
func TestReadingChangesNothing(t *testing.T) {
	l, b := row(4, 5)
	for _, cut := range []int{0, 3, 10, len(b) - 1, len(b)} {
		want, used, errno := frame.Scan(bytes.Clone(b[:cut]))
		for ahead := range 9 {
			around := join(noise(1, ahead), b, noise(2, 50))
			before := bytes.Clone(around)
			checkScan(t, "within others", around[ahead:ahead+cut], want, used, errno)
			frame.Get(around[ahead : ahead+cut])
			if !bytes.Equal(around, before) {
				t.Fatalf("%d bytes ahead, %d of them: changed", ahead, cut)
			}
		}
	}
	checkScan(t, "all", b, l, len(b), api.OK)
}

// begins is what Get is to answer, by the words of P3.2 alone.
func begins(b []byte) (frame.Frame, int, api.Errno) {
	if len(b) < 4 {
		return frame.Frame{}, 0, api.ErrShort
	}
	said := binary.LittleEndian.Uint32(b)
	if said > 65536 {
		return frame.Frame{}, 0, api.ErrBytes
	}
	all := int(said) + over
	if len(b) < all {
		return frame.Frame{}, 0, api.ErrShort
	}
	if !bytes.Equal(signed(b[:all-4]), b[:all]) {
		return frame.Frame{}, 0, api.ErrCRC
	}
	return frame.Frame{Kind: int(b[4]), Body: b[5 : all-4]}, all, api.OK
}

// R1, P3.2 and P3.3: frames and bytes without a pattern, one behind the other, some of them changed.
func TestReadingOfNoise(t *testing.T) {
	for seed := range 4000 {
		_, b := row(seed, seed%5)
		b = join(b, noise(seed, seed%23))
		if len(b) > 0 && seed%3 == 0 {
			b[int(noise(seed+1, 1)[0])%len(b)] ^= 1 << (seed % 8)
		}
		var want []frame.Frame
		at, errno := 0, api.OK
		for at < len(b) && errno == api.OK {
			f, used, e := begins(b[at:])
			got, n, ge := frame.Get(b[at:])
			if !same(f, got) || n != used || ge != e {
				t.Fatalf("%v: Get tells %v, %d, %v, not %v, %d, %v", b[at:], got, n, ge, f, used, e)
			}
			if errno = e; e == api.OK {
				want = append(want, f)
			}
			at += used
		}
		checkScan(t, "noise", b, want, at, errno)
	}
}
