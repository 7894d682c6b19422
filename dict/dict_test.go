package dict_test

import (
	"bytes"
	"encoding/binary"
	"math"
	"slices"
	"strconv"
	"strings"
	"testing"

	"tesseract/api"
	"tesseract/dict"
	"tesseract/wire"
)

const (
	mostPaths  = 40
	mostLevels = 3
	longest    = "abcdefghij-9"  // 12 bytes
	tooLong    = "abcdefghij-98" // 13 bytes
)

// badNames is texts that are no names.
var badNames = []string{"", "A", "a/b", "*", "a ", "é", "\x00", "\xff", "a.", tooLong}

// wrongLevels is numbers of levels of no dictionary.
var wrongLevels = []int{0, 4, -1, 5, -2, -3, 256, 257, 1 << 32, 1<<32 + 1, -1 << 32, math.MinInt, math.MinInt + 1, math.MaxInt, math.MaxInt - 1}

// model is a dictionary by the words of the document: its paths, in the order in which they came.
type model struct {
	levels int
	paths  [][]string
}

// code is a path's code, or -1, if it is not there.
func (m *model) code(p []string) int {
	if len(p) == 0 {
		return 0
	}
	for i, q := range m.paths {
		if slices.Equal(p, q) {
			return i + 1
		}
	}
	return -1
}

// lacks is how many paths do not stand there of one that has a name for each level, and of all that it stands under.
func (m *model) lacks(p []string) int {
	n := 0
	for i := range p {
		if m.code(p[:i+1]) < 0 {
			n++
		}
	}
	return n
}

// add is what Add is to answer of a path that has a name for each level.
func (m *model) add(p []string) ([]int, api.Errno) {
	if len(m.paths)+m.lacks(p) > mostPaths {
		return nil, api.ErrPaths
	}
	var codes []int
	for i := range p {
		if m.code(p[:i+1]) < 0 {
			m.paths = append(m.paths, slices.Clone(p[:i+1]))
		}
		codes = append(codes, m.code(p[:i+1]))
	}
	return codes, api.OK
}

// put is the bytes of it. The library's numbers of changing length have wire's form when they are put.
func (m *model) put() []byte {
	b := binary.AppendVarint(nil, int64(len(m.paths)))
	for _, p := range m.paths {
		last := p[len(p)-1]
		b = binary.AppendVarint(b, int64(m.code(p[:len(p)-1])))
		b = append(binary.AppendVarint(b, int64(len(last))), last...)
	}
	return b
}

// copied is another model with the same.
func (m *model) copied() *model {
	return &model{levels: m.levels, paths: slices.Clone(m.paths)}
}

// both is a dictionary and its model.
type both struct {
	d *dict.Dict
	m *model
}

// empty is a dictionary without paths.
func empty(t *testing.T, levels int) both {
	t.Helper()
	d := dict.New(levels)
	if d == nil {
		t.Fatalf("New(%d) is nil", levels)
	}
	return both{d, &model{levels: levels}}
}

// add adds a path that has a name for each level to both, holds the answers against each other, and the path against what it was.
func (x both) add(t *testing.T, p ...string) {
	t.Helper()
	all := append(slices.Clone(p), "others", "a", "b")
	before := slices.Clone(all)
	got, e := x.d.Add(all[:len(p)])
	want, errno := x.m.add(p)
	if !slices.Equal(got, want) || e != errno {
		t.Fatalf("Add(%q) is %v, %v, not %v, %v", p, got, e, want, errno)
	}
	if e != api.OK && got != nil {
		t.Errorf("Add(%q): beside an error the codes are not nil", p)
	}
	if !slices.Equal(all, before) {
		t.Errorf("Add changed %q to %q", before, all)
	}
}

// refuse adds a path to the dictionary, which is to be refused and to change nothing.
func (x both) refuse(t *testing.T, errno api.Errno, p ...string) {
	t.Helper()
	all := append(slices.Clone(p), "others", "a", "b")
	before := slices.Clone(all)
	if got, e := x.d.Add(all[:len(p)]); got != nil || e != errno {
		t.Errorf("Add(%q) is %v, %v, not %v", p, got, e, errno)
	}
	if !slices.Equal(all, before) {
		t.Errorf("Add changed %q to %q", before, all)
	}
	x.check(t)
}

// check holds all that a dictionary tells against its model.
func (x both) check(t *testing.T) {
	t.Helper()
	if x.d.Len() != len(x.m.paths) {
		t.Fatalf("Len is %d, not %d", x.d.Len(), len(x.m.paths))
	}
	if got := x.d.Put(nil); !bytes.Equal(got, x.m.put()) {
		t.Errorf("Put(none) is %v, not %v", got, x.m.put())
	}
	x.checkCode(t, nil)
	for _, code := range codes(x.d.Len()) {
		var want []string
		errno := api.ErrNone
		switch {
		case code == 0:
			errno = api.OK
		case code >= 1 && code <= len(x.m.paths):
			want, errno = x.m.paths[code-1], api.OK
			x.checkCode(t, want)
		}
		got, e := x.d.Path(code)
		if !slices.Equal(got, want) || e != errno || e != api.OK && got != nil {
			t.Errorf("Path(%d) is %q, %v, not %q, %v", code, got, e, want, errno)
		}
		x.checkUp(t, code, want, errno)
	}
}

// codes is all codes of a dictionary with so many paths, and others about them.
func codes(length int) []int {
	l := []int{math.MinInt, math.MinInt + 1, -1 << 32, -41, -2, length + 2, mostPaths + 1, 1 << 32, 1<<32 + 1, math.MaxInt - 1, math.MaxInt}
	for code := -1; code <= length+1; code++ {
		l = append(l, code)
	}
	return l
}

// checkUp asks Up of a code, whose path and error are told, at levels within and beyond.
func (x both) checkUp(t *testing.T, code int, p []string, errno api.Errno) {
	t.Helper()
	for _, level := range []int{0, 1, 2, 3, 4, 5, 6, -1, -2, -3, 1 << 32, 1<<32 + 1, -1 << 32, math.MinInt, math.MinInt + 1, math.MaxInt, math.MaxInt - 1} {
		want, wanted := 0, errno
		if errno == api.OK {
			if level < 0 || level > len(p) {
				wanted = api.ErrArg
			} else {
				want = x.m.code(p[:level])
			}
		}
		if got, e := x.d.Up(code, level); got != want || e != wanted {
			t.Errorf("Up(%d, %d) is %d, %v, not %d, %v", code, level, got, e, want, wanted)
		}
	}
}

// checkCode asks Code of a path, with spare room and without.
func (x both) checkCode(t *testing.T, p []string) {
	t.Helper()
	want, errno := x.m.code(p), api.OK
	if want < 0 {
		want, errno = 0, api.ErrNone
	}
	all := append(slices.Clone(p), "others", "a", "b")
	before := slices.Clone(all)
	for _, l := range [][]string{all[:len(p)], slices.Clip(slices.Clone(p))} {
		if got, e := x.d.Code(l); got != want || e != errno {
			t.Errorf("Code(%q) is %d, %v, not %d, %v", p, got, e, want, errno)
		}
	}
	if !slices.Equal(all, before) {
		t.Errorf("Code changed %q to %q", before, all)
	}
}

// of is a path of so many names: the same ones, but for the last ones.
func of(levels int, last ...string) []string {
	return append(slices.Repeat([]string{"m"}, levels-len(last)), last...)
}

// filled is a dictionary of so many paths: none, or at least as many as there are levels.
func filled(t *testing.T, levels, count int) both {
	t.Helper()
	x := empty(t, levels)
	for i := range count - levels + 1 {
		x.add(t, of(levels, "m"+strconv.Itoa(i))...)
	}
	if x.d.Len() != count {
		t.Fatalf("filled up to %d, not %d", x.d.Len(), count)
	}
	return x
}

// some is dictionaries of each number of levels: empty, of one path, of some and of as many paths as may be.
func some(t *testing.T) []both {
	t.Helper()
	var l []both
	for levels := 1; levels <= mostLevels; levels++ {
		for _, count := range []int{levels, levels + 1, 20, mostPaths - 1, mostPaths} {
			l = append(l, filled(t, levels, count))
		}
		l = append(l, empty(t, levels), grown(t, levels, levels, 9), grown(t, levels, levels+3, 60))
	}
	return l
}

// noise is small numbers without a pattern, the same at each call.
func noise(seed, count, below int) []int {
	l := make([]int, count)
	x := uint32(seed)*2654435761 + 12345
	for i := range l {
		x = x*1664525 + 1013904223
		l[i] = int(x>>16) % below
	}
	return l
}

// grown is a dictionary to which so many paths were added, of few names, so that they share some; some may have been refused.
func grown(t *testing.T, levels, seed, adds int) both {
	t.Helper()
	x := empty(t, levels)
	pick := noise(seed, adds*levels, 7)
	for i := range adds {
		var p []string
		for _, n := range pick[i*levels : (i+1)*levels] {
			p = append(p, []string{"a", "b", "c", "-", "_0", longest, "aa"}[n])
		}
		x.add(t, p...)
	}
	return x
}

// P7.1: New, of each number of levels that may be, and of others.
func TestNew(t *testing.T) {
	for levels := 1; levels <= mostLevels; levels++ {
		empty(t, levels).check(t)
	}
	for _, levels := range wrongLevels {
		if dict.New(levels) != nil {
			t.Errorf("New(%d) is not nil", levels)
		}
	}
}

// The document's examples.
func TestExamples(t *testing.T) {
	d := dict.New(2)
	for _, x := range []struct {
		p    []string
		want []int
	}{
		{[]string{"a", "x"}, []int{1, 2}},
		{[]string{"a", "y"}, []int{1, 3}},
		{[]string{"b", "x"}, []int{4, 5}},
		{[]string{"a", "y"}, []int{1, 3}},
	} {
		if got, e := d.Add(x.p); !slices.Equal(got, x.want) || e != api.OK {
			t.Errorf("Add(%q) is %v, %v", x.p, got, e)
		}
	}
	if n, e := d.Code([]string{"a"}); n != 1 || e != api.OK {
		t.Errorf("Code([a]) is %d, %v", n, e)
	}
	if n, e := d.Code([]string{"x"}); n != 0 || e != api.ErrNone {
		t.Errorf("Code([x]) is %d, %v", n, e)
	}
	if p, e := d.Path(3); !slices.Equal(p, []string{"a", "y"}) || e != api.OK {
		t.Errorf("Path(3) is %q, %v", p, e)
	}
	for _, x := range []struct {
		code, level, want int
		errno             api.Errno
	}{{5, 1, 4, api.OK}, {5, 0, 0, api.OK}, {4, 2, 0, api.ErrArg}} {
		if got, e := d.Up(x.code, x.level); got != x.want || e != x.errno {
			t.Errorf("Up(%d, %d) is %d, %v", x.code, x.level, got, e)
		}
	}
	if d.Len() != 5 {
		t.Errorf("Len is %d", d.Len())
	}
	want := []byte{10, 0, 2, 'a', 2, 2, 'x', 2, 2, 'y', 0, 2, 'b', 8, 2, 'x'}
	if got := d.Put(nil); !bytes.Equal(got, want) {
		t.Errorf("Put(none) is %v, not %v", got, want)
	}
}

// P7.1 and P7.2: paths that share no name, one, two and all with what is there: which codes come, by hand, and all that is told behind each.
func TestAddOfSharedNames(t *testing.T) {
	x := empty(t, 3)
	for _, s := range []struct {
		p    string
		want []int
	}{
		{"a/b/c", []int{1, 2, 3}},
		{"a/b/c", []int{1, 2, 3}},
		{"b/b/c", []int{4, 5, 6}},
		{"a/c/c", []int{1, 7, 8}},
		{"a/b/d", []int{1, 2, 9}},
		{"b/b/d", []int{4, 5, 10}},
		{"c/a/b", []int{11, 12, 13}},
		{"a/a/a", []int{1, 14, 15}},
		{"a/a/b", []int{1, 14, 16}},
		{"a/b/c", []int{1, 2, 3}},
		{"b/b/c", []int{4, 5, 6}},
		{"-/_/" + longest, []int{17, 18, 19}},
		{longest + "/_/-", []int{20, 21, 22}},
	} {
		p := strings.Split(s.p, "/")
		x.add(t, p...)
		x.check(t)
		if got, e := x.d.Add(p); !slices.Equal(got, s.want) || e != api.OK {
			t.Errorf("Add(%q) is %v, %v, not %v", p, got, e, s.want)
		}
		x.check(t)
	}
	for levels := 1; levels < mostLevels; levels++ {
		x := empty(t, levels)
		for i := range 20 {
			x.add(t, of(levels, "m"+strconv.Itoa(i%7))...)
			x.add(t, slices.Repeat([]string{"n" + strconv.Itoa(i%5)}, levels)...)
			x.check(t)
		}
	}
}

// P7.1: names that would be one text if they stood beside each other are others.
func TestAddOfLikeNames(t *testing.T) {
	x := empty(t, 2)
	for _, p := range [][]string{{"a", "bc"}, {"ab", "c"}, {"a", "b"}, {"1", "0"}, {"0", "1"}, {"10", "0"}, {"aa", "a"}, {"a", "aa"}, {"a-", "a"}, {"a", "-a"}} {
		x.add(t, p...)
		x.check(t)
	}
	if x.d.Len() != 17 { // [a] is above three of ten
		t.Errorf("Len is %d", x.d.Len())
	}
}

// P7.1: what is no path of as many names as there are levels is refused, whatever is there already.
func TestAddOfOthers(t *testing.T) {
	for _, x := range some(t) {
		levels := x.m.levels
		for length := range 7 {
			if length != levels {
				x.refuse(t, api.ErrName, slices.Repeat([]string{"m"}, length)...)
			}
		}
		x.refuse(t, api.ErrName, slices.Repeat([]string{"m"}, 5000)...)
		for _, bad := range badNames {
			for place := range levels {
				p := slices.Repeat([]string{"m"}, levels)
				p[place] = bad
				x.refuse(t, api.ErrName, p...)
			}
			x.refuse(t, api.ErrName, of(levels+1, bad)...)
		}
	}
}

// P7.1: up to just as many paths as may be and beyond, where one, two or three are lacking; and P7.5 of a full one.
func TestAddUpToMostPaths(t *testing.T) {
	for levels := 1; levels <= mostLevels; levels++ {
		for lacking := 1; lacking <= levels; lacking++ {
			more := of(levels, slices.Repeat([]string{"x"}, lacking)...)
			for room := range lacking {
				x := filled(t, levels, mostPaths-room)
				x.refuse(t, api.ErrPaths, more...)
				x.refuse(t, api.ErrPaths, more...)
				for _, p := range slices.Clone(x.m.paths) {
					if len(p) == levels {
						x.add(t, p...)
					}
				}
				x.check(t)
			}
			x := filled(t, levels, mostPaths-lacking)
			x.add(t, more...)
			if x.d.Len() != mostPaths {
				t.Errorf("%d paths", x.d.Len())
			}
			x.check(t)
			x.refuse(t, api.ErrPaths, of(levels, "y")...)
			x.add(t, more...)
			x.check(t)
		}
	}
}

// P7.1: behind a refusal for want of room what lacks less still comes.
func TestAddBehindRefusal(t *testing.T) {
	x := filled(t, 3, 38)
	x.refuse(t, api.ErrPaths, "x", "x", "x")
	x.add(t, "m", "x", "x")
	x.check(t)
	x.refuse(t, api.ErrPaths, "m", "x", "y")
	x.refuse(t, api.ErrPaths, "m", "y", "x")
	x.refuse(t, api.ErrName, "m", "y", "X")
	x.add(t, "m", "x", "x")
	x.check(t)
}

// P7.2: paths of 0 to 3 names, there and not there, of more names than there are levels, and what is no path.
func TestCode(t *testing.T) {
	for _, x := range some(t) {
		for _, p := range slices.Clone(x.m.paths) {
			for length := range p {
				x.checkCode(t, p[:length])
				x.checkCode(t, p[length:])
			}
			reversed := slices.Clone(p)
			slices.Reverse(reversed)
			x.checkCode(t, reversed)
			if len(p) < mostLevels {
				x.checkCode(t, append(slices.Clone(p), p[0]))
			}
		}
		for length := 1; length <= mostLevels; length++ {
			x.checkCode(t, slices.Repeat([]string{"zz"}, length))
			x.checkCode(t, slices.Repeat([]string{longest}, length))
			x.checkCode(t, of(length, "zz"))
			x.checkCode(t, append([]string{"zz"}, of(length, "m")[1:]...))
		}
		checkNoPaths(t, x)
	}
}

// checkNoPaths asks Code of what is no path.
func checkNoPaths(t *testing.T, x both) {
	t.Helper()
	l := [][]string{slices.Repeat([]string{"m"}, 4), {"m", "m", "m", "m0"}, {"A", "m", "m", "m"}, slices.Repeat([]string{"m"}, 5000)}
	for _, bad := range badNames {
		l = append(l, []string{bad}, []string{"m", bad}, []string{bad, "m"}, []string{"zz", bad}, []string{"m", "m", bad}, []string{"zz", "zz", bad}, []string{bad, bad, bad})
	}
	for _, p := range l {
		if n, e := x.d.Code(p); n != 0 || e != api.ErrName {
			t.Errorf("Code(%q) is %d, %v", p, n, e)
		}
	}
	x.check(t)
}

// P7.2: Path, Up, Code and Len of dictionaries of each size.
func TestOfEachSize(t *testing.T) {
	for _, x := range some(t) {
		x.check(t)
		x.check(t)
	}
	for levels := 1; levels <= mostLevels; levels++ {
		for count := levels; count <= mostPaths; count++ {
			filled(t, levels, count).check(t)
		}
	}
}

// P7.4: codes never change: what is told of a code stays, whatever comes.
func TestCodesStay(t *testing.T) {
	for seed := range 150 {
		levels := 1 + seed%mostLevels
		x := empty(t, levels)
		pick := noise(seed, 60*levels, 2+seed%9)
		var told [][]string
		for i := range 60 {
			var p []string
			for _, n := range pick[i*levels : (i+1)*levels] {
				p = append(p, strings.Repeat("n", 1+n))
			}
			x.add(t, p...)
			for code, q := range told {
				if got, e := x.d.Path(code + 1); !slices.Equal(got, q) || e != api.OK {
					t.Fatalf("Path(%d) was %q, and is %q, %v", code+1, q, got, e)
				}
			}
			for code := len(told) + 1; code <= x.d.Len(); code++ {
				q, _ := x.d.Path(code)
				told = append(told, q)
			}
		}
		x.check(t)
	}
}

// P7.2: what is added to the one does not come into the other, both ways round, nor into a third.
func TestCopy(t *testing.T) {
	for _, x := range some(t) {
		levels := x.m.levels
		y := both{x.d.Copy(), x.m.copied()}
		z := both{y.d.Copy(), x.m.copied()}
		x.check(t)
		y.check(t)
		z.check(t)
		x.add(t, of(levels, "x")...)
		y.check(t)
		y.add(t, of(levels, "y")...)
		y.add(t, of(levels, "x")...)
		x.check(t)
		x.add(t, slices.Repeat([]string{"x"}, levels)...)
		x.add(t, of(levels, "y")...)
		z.check(t)
		y.check(t)
		x.check(t)
		y.refuse(t, api.ErrName, of(levels+1, "m")...)
		y.refuse(t, api.ErrName, of(levels, "m")[1:]...)
	}
}

// P7.3 and R4: what is put stands behind b, of which no byte changes, its spare room neither; and is new memory.
func TestPutStandsBehind(t *testing.T) {
	for _, x := range some(t) {
		for _, length := range []int{0, 1, 5, 64, 300} {
			for _, room := range []int{0, 1, 5, 64, 2000} {
				checkPut(t, x, length, room)
			}
		}
		for _, b := range [][]byte{nil, {}} {
			if got := x.d.Put(b); !bytes.Equal(got, x.m.put()) {
				t.Errorf("behind no byte: %v, not %v", got, x.m.put())
			}
		}
		x.check(t)
	}
}

// checkPut puts a dictionary behind so many bytes, with so much spare room, in which others' bytes stand.
func checkPut(t *testing.T, x both, length, room int) {
	t.Helper()
	all := make([]byte, length+room)
	for i, n := range noise(length, length+room, 256) {
		all[i] = byte(n)
	}
	before := bytes.Clone(all)
	first, second := x.d.Put(all[:length]), x.d.Put(all[:length])
	want := append(bytes.Clone(before[:length]), x.m.put()...)
	if !bytes.Equal(first, want) || !bytes.Equal(second, want) || !bytes.Equal(all, before) {
		t.Fatalf("%d bytes with room for %d: %v, and %v, not %v; or bytes changed", length, room, first, second, want)
	}
	for i := range first {
		first[i] ^= 255
	}
	_ = append(first, 1, 2, 3)
	if !bytes.Equal(second, want) || !bytes.Equal(all, before) {
		t.Errorf("%d bytes with room for %d: what is put is no new memory", length, room)
	}
}

// P7.3 and P7.4: what was put is read, with bytes ahead and behind, which stay to be read; and what is read goes on as what was put does.
func TestReadOfPut(t *testing.T) {
	for _, x := range some(t) {
		levels := x.m.levels
		for _, ahead := range []int{0, 1, -65} {
			for _, behind := range [][]byte{nil, {0}, {255}, {2, 0, 2, 'a'}} {
				start := wire.PutInt(nil, ahead)
				r := wire.New(append(x.d.Put(start), behind...))
				if r.Int(ahead, ahead) != ahead || r.Failed() {
					t.Fatal("what stands ahead is not read")
				}
				y := both{dict.Read(r, levels), x.m.copied()}
				if y.d == nil || r.Failed() || r.At() != len(start)+len(x.m.put()) {
					t.Fatalf("Read of %v: nil, or %v, at %d", x.m.put(), r.End(), r.At())
				}
				if (r.End() == api.OK) != (len(behind) == 0) {
					t.Errorf("%v behind it: %v", behind, r.End())
				}
				y.check(t)
				y.add(t, of(levels, "x")...)
				y.add(t, slices.Repeat([]string{"q"}, levels)...)
				y.check(t)
				x.check(t)
			}
		}
	}
}

// P7.3: two, one behind the other, of other levels.
func TestReadOfTwo(t *testing.T) {
	x, y := grown(t, 3, 5, 12), grown(t, 1, 6, 4)
	r := wire.New(y.d.Put(x.d.Put(nil)))
	first := both{dict.Read(r, 3), x.m}
	second := both{dict.Read(r, 1), y.m}
	if first.d == nil || second.d == nil || r.End() != api.OK {
		t.Fatalf("nil, or %v", r.End())
	}
	first.check(t)
	second.check(t)
	first.add(t, "only", "in", "first")
	second.check(t)
}

// read is what Read is to answer of bytes, by the words of the document: the model, the place behind it, and the error.
func read(b []byte, levels int) (*model, int, api.Errno) {
	m, at := &model{levels: levels}, 0
	number := func(most int) (int, int, api.Errno) {
		n, used, errno := wire.GetInt(b[at:])
		if errno == api.OK && (n < 0 || n > most) {
			errno = api.ErrBytes
		}
		return n, used, errno
	}
	count, used, errno := number(mostPaths)
	if errno != api.OK {
		return nil, at, errno
	}
	at += used
	for range count {
		above, used, errno := number(len(m.paths))
		if errno != api.OK {
			return nil, at, errno
		}
		at += used
		length, used, errno := number(12)
		if errno == api.OK && at+used+length > len(b) {
			errno = api.ErrShort
		}
		if errno != api.OK {
			return nil, at, errno
		}
		at += used + length
		if !m.next(above, string(b[at-length:at])) {
			return nil, at, api.ErrBytes
		}
	}
	if m.unfinished() {
		return nil, at, api.ErrBytes
	}
	return m, at, api.OK
}

// next lets the path of a code and a last name come, if it may be the next one.
func (m *model) next(above int, last string) bool {
	var p []string
	if above > 0 {
		p = append(p, m.paths[above-1]...)
	}
	p = append(p, last)
	switch {
	case last == "" || strings.Trim(last, "abcdefghijklmnopqrstuvwxyz0123456789-_") != "":
		return false
	case len(p) > m.levels || m.code(p) >= 0:
		return false
	case m.unfinished() && !slices.Equal(p[:len(p)-1], m.paths[len(m.paths)-1]):
		return false
	}
	m.paths = append(m.paths, p)
	return true
}

// unfinished is whether the path that came last has fewer names than there are levels.
func (m *model) unfinished() bool {
	return len(m.paths) > 0 && len(m.paths[len(m.paths)-1]) < m.levels
}

// checkRead holds Read of bytes, with bytes ahead, against read: the answer, the place, and the error, which stays.
func checkRead(t *testing.T, b []byte, levels int) {
	t.Helper()
	all := append([]byte{3}, b...)
	before := bytes.Clone(all)
	r := wire.New(all)
	r.Int(-2, -2)
	want, at, errno := read(b, levels)
	got := dict.Read(r, levels)
	if (got == nil) != (want == nil) || r.At() != at+1 || r.Failed() != (errno != api.OK) {
		t.Fatalf("Read of %v, %d levels: nil is %v, at %d, %v, not %v, at %d, %v", b, levels, got == nil, r.At()-1, r.End(), want == nil, at, errno)
	}
	if errno != api.OK && r.End() != errno {
		t.Fatalf("Read of %v, %d levels: %v, not %v", b, levels, r.End(), errno)
	}
	if !bytes.Equal(all, before) {
		t.Fatalf("Read changed %v to %v", before, all)
	}
	if want == nil {
		return
	}
	if put := got.Put(nil); !bytes.Equal(put, b[:at]) || got.Len() != len(want.paths) {
		t.Fatalf("what is read of %v is put as %v", b, put)
	}
}

// coded is a path as it is put: a code, and a last name.
type coded struct {
	above int
	last  string
}

// bytesOf is bytes as Put puts them, of so many paths as count says, whichever they are.
func bytesOf(count int, l ...coded) []byte {
	b := wire.PutInt(nil, count)
	for _, p := range l {
		b = wire.PutText(wire.PutInt(b, p.above), p.last)
	}
	return b
}

// P7.3: each refusal by hand: the place and the error.
func TestReadOfOthers(t *testing.T) {
	ax := []coded{{0, "a"}, {1, "x"}}
	with := func(more ...coded) []byte { return bytesOf(2+len(more), append(slices.Clone(ax), more...)...) }
	for _, x := range []struct {
		about string
		b     []byte
		at    int
		errno api.Errno
	}{
		{"no byte", nil, 0, api.ErrShort},
		{"no paths", []byte{0}, 1, api.OK},
		{"-1 paths", bytesOf(-1), 0, api.ErrBytes},
		{"the least int of paths", bytesOf(math.MinInt), 0, api.ErrBytes},
		{"as many paths as may be, but none there", bytesOf(40), 1, api.ErrShort},
		{"a path too many", bytesOf(41), 0, api.ErrBytes},
		{"the greatest int of paths", bytesOf(math.MaxInt), 0, api.ErrBytes},
		{"no number", []byte{128, 0}, 0, api.ErrBytes},
		{"half a number", []byte{128}, 0, api.ErrShort},
		{"a path", with(), 7, api.OK},
		{"a code of -1", with(coded{-1, "b"}), 7, api.ErrBytes},
		{"a code of as many as came, of too many names", with(coded{2, "b"}), 10, api.ErrBytes},
		{"a code of one more than came", with(coded{3, "b"}), 7, api.ErrBytes},
		{"at first a code of one more than came", bytesOf(2, coded{1, "b"}, coded{1, "b"}), 1, api.ErrBytes},
		{"the greatest int as a code", with(coded{math.MaxInt, "b"}), 7, api.ErrBytes},
		{"the least int as a code", with(coded{math.MinInt, "b"}), 7, api.ErrBytes},
		{"half a code", append(bytesOf(3, ax...), 130), 7, api.ErrShort},
		{"no number as a code", append(bytesOf(3, ax...), 130, 0), 7, api.ErrBytes},
		{"a name of no byte", with(coded{1, ""}), 9, api.ErrBytes},
		{"a name of 12 bytes", with(coded{1, longest}), 21, api.OK},
		{"a name of 13 bytes", with(coded{1, tooLong}), 8, api.ErrBytes},
		{"a name of -1 bytes", append(bytesOf(3, ax...), 2, 1, 'b'), 8, api.ErrBytes},
		{"a name that is not there whole", append(bytesOf(3, ax...), 2, 4, 'b'), 8, api.ErrShort},
		{"a great letter", with(coded{1, "B"}), 10, api.ErrBytes},
		{"a letter that stands in no name", with(coded{1, "b/"}), 11, api.ErrBytes},
		{"the byte 0", with(coded{1, "\x00"}), 10, api.ErrBytes},
		{"a path that is there", with(coded{1, "x"}), 10, api.ErrBytes},
		{"a path of one name that is there", with(coded{0, "a"}, coded{3, "y"}), 10, api.ErrBytes},
		{"one more name", with(coded{1, "y"}), 10, api.OK},
		{"another path", with(coded{0, "x"}, coded{3, "a"}), 13, api.OK},
		{"not what must come: one of one name", bytesOf(4, coded{0, "a"}, coded{0, "b"}, coded{1, "x"}, coded{2, "x"}), 7, api.ErrBytes},
		{"not what must come: behind another one", with(coded{0, "b"}, coded{1, "y"}), 13, api.ErrBytes},
		{"too few names at the end", bytesOf(1, coded{0, "a"}), 4, api.ErrBytes},
		{"too few names at the end, behind others", with(coded{0, "b"}), 10, api.ErrBytes},
		{"too few names at the end, others behind", append(with(coded{0, "b"}), 6, 2, 'x'), 10, api.ErrBytes},
	} {
		r := wire.New(x.b)
		d := dict.Read(r, 2)
		if (d != nil) != (x.errno == api.OK) || r.At() != x.at || r.End() != x.errno {
			t.Errorf("%s: nil is %v, at %d, %v, not at %d, %v", x.about, d == nil, r.At(), r.End(), x.at, x.errno)
		}
		for levels := 1; levels <= mostLevels; levels++ {
			checkRead(t, x.b, levels)
		}
	}
}

// P7.3: of 3 levels, where a path that is not finished may be one of two names, and more than one level is above.
func TestReadOfThreeLevels(t *testing.T) {
	abc := []coded{{0, "a"}, {1, "b"}, {2, "c"}}
	for _, x := range []struct {
		about string
		more  []coded
		ok    bool
	}{
		{"no more", nil, true},
		{"one under two names", []coded{{2, "d"}}, true},
		{"one under one name", []coded{{1, "d"}, {4, "c"}}, true},
		{"another one", []coded{{0, "d"}, {4, "b"}, {5, "c"}}, true},
		{"a fourth name", []coded{{3, "d"}}, false},
		{"there already", []coded{{2, "c"}}, false},
		{"two names, there already", []coded{{1, "b"}}, false},
		{"two names at the end", []coded{{1, "d"}}, false},
		{"one name at the end", []coded{{0, "d"}}, false},
		{"two names of another one at the end", []coded{{0, "d"}, {4, "b"}}, false},
		{"behind two names one of one", []coded{{1, "d"}, {0, "e"}, {4, "c"}}, false},
		{"behind two names one of another two", []coded{{1, "d"}, {2, "e"}}, false},
		{"behind two names one beside", []coded{{1, "d"}, {1, "e"}, {5, "c"}}, false},
		{"behind one name one of three", []coded{{0, "d"}, {2, "e"}}, false},
		{"behind one name one of another two", []coded{{0, "d"}, {1, "e"}, {5, "f"}}, false},
	} {
		b := bytesOf(3+len(x.more), append(slices.Clone(abc), x.more...)...)
		if d := dict.Read(wire.New(b), 3); (d != nil) != x.ok {
			t.Errorf("%s: nil is %v", x.about, d == nil)
		}
		checkRead(t, b, 3)
	}
}

// P7.3: all rows of up to 4 paths, of some codes and names, of each number of levels.
func TestReadOfAllShortRows(t *testing.T) {
	rows := [][]coded{nil}
	for at := 0; at < len(rows); at++ {
		row := rows[at]
		for above := 0; above <= len(row)+1 && len(row) < 4; above++ {
			for _, last := range []string{"a", "b", ""} {
				if above <= len(row) && last != "" || len(row) < 3 {
					rows = append(rows, append(slices.Clip(row), coded{above, last}))
				}
			}
		}
		for levels := 1; levels <= mostLevels; levels++ {
			for more := -1; more <= 1; more++ {
				checkRead(t, bytesOf(len(row)+more, row...), levels)
			}
		}
	}
}

// P7.3: bytes that are cut off at every place, or with each other byte at every place, of each number of levels.
func TestReadOfChangedBytes(t *testing.T) {
	l := []both{empty(t, 1), grown(t, 1, 3, 5), grown(t, 2, 4, 5), grown(t, 3, 5, 4), filled(t, 2, mostPaths), filled(t, 3, mostPaths)}
	for _, x := range l {
		whole := x.m.put()
		for i := range whole {
			cut := whole[:i]
			r := wire.New(cut)
			if dict.Read(r, x.m.levels) != nil || r.End() != api.ErrShort {
				t.Errorf("%d bytes of %v: not refused, or %v", i, whole, r.End())
			}
			for levels := 1; levels <= mostLevels; levels++ {
				checkRead(t, cut, levels)
			}
			for c := range 256 {
				changed := bytes.Clone(whole)
				changed[i] = byte(c)
				checkRead(t, changed, x.m.levels)
			}
		}
		for levels := 1; levels <= mostLevels; levels++ {
			checkRead(t, append(whole, 0, 255), levels)
		}
	}
}

// P7.3: no dictionary is read of a number of levels that may not be, nor by no reader, nor by one that has an error; what a reader has stays.
func TestReadOfNoReader(t *testing.T) {
	for _, levels := range append([]int{1, 2, 3}, wrongLevels...) {
		if dict.Read(nil, levels) != nil {
			t.Errorf("Read(nil, %d) is not nil", levels)
		}
		for _, errno := range []api.Errno{api.ErrBytes, api.ErrShort} {
			r := wire.New([]byte{8, 0, 2, 'a'})
			if errno == api.ErrShort {
				r.Text(5)
			} else {
				r.Int(0, 1)
			}
			if dict.Read(r, levels) != nil || r.End() != errno || r.At() != 0 {
				t.Errorf("of a reader with %v: not nil, or %v, at %d", errno, r.End(), r.At())
			}
		}
		r := wire.New([]byte{0, 2, 0, 2, 'a'})
		r.Int(0, 0)
		r.Bad()
		if dict.Read(r, levels) != nil || r.End() != api.ErrBytes || r.At() != 1 {
			t.Errorf("of a bad reader: not nil, or %v, at %d", r.End(), r.At())
		}
	}
	for _, levels := range wrongLevels {
		for _, b := range [][]byte{nil, {0}, {128}, {2, 0, 2, 'a'}} {
			r := wire.New(b)
			if dict.Read(r, levels) != nil || r.Failed() || r.At() != 0 {
				t.Errorf("Read(%v, %d): not nil, or %v, at %d", b, levels, r.End(), r.At())
			}
		}
	}
}

// P7.5: Add of a path that is there changes nothing, also where many are.
func TestAddOfThose(t *testing.T) {
	for _, x := range some(t) {
		before := x.d.Put(nil)
		for code, p := range slices.Clone(x.m.paths) {
			if len(p) < x.m.levels {
				continue
			}
			got, e := x.d.Add(p)
			if e != api.OK || len(got) != len(p) || got[len(p)-1] != code+1 || !bytes.Equal(x.d.Put(nil), before) {
				t.Errorf("Add(%q) is %v, %v, or it changed something", p, got, e)
			}
		}
		x.check(t)
	}
}

// R4: lists that are handed in are not kept: what is written into them behind the call changes nothing.
func TestNothingIsKept(t *testing.T) {
	x := empty(t, 3)
	p := []string{"a", "b", "c"}
	x.d.Add(p)
	x.m.add([]string{"a", "b", "c"})
	p[0], p[1], p[2] = "x", "y", "z"
	x.check(t)
	b := x.d.Put(nil)
	r := wire.New(b)
	y := both{dict.Read(r, 3), x.m}
	clear(b)
	x.check(t)
	y.check(t)
}

// R4: what is written into an answer, or appended to it, changes no other answer, nothing of the dictionary, and nothing that was handed in.
func TestAnswersAreTheirOwn(t *testing.T) {
	for _, x := range some(t) {
		for code, p := range slices.Clone(x.m.paths) {
			checkOwnPath(t, x, code+1)
			if len(p) == x.m.levels {
				checkOwnCodes(t, x, p)
			}
		}
		x.check(t)
		fresh, _ := x.d.Add(of(x.m.levels, "x"))
		for i := range fresh {
			fresh[i] = -1
		}
		_ = append(fresh, -1)
		x.m.add(of(x.m.levels, "x"))
		x.check(t)
	}
}

// checkOwnPath writes into an answer of Path.
func checkOwnPath(t *testing.T, x both, code int) {
	t.Helper()
	first, _ := x.d.Path(code)
	second, _ := x.d.Path(code)
	want := slices.Clone(first)
	for i := range first {
		first[i] = "other"
	}
	_ = append(first, "more", "more")
	third, _ := x.d.Path(code)
	if !slices.Equal(second, want) || !slices.Equal(third, want) {
		t.Errorf("Path(%d) is no list of its own", code)
	}
}

// checkOwnCodes writes into an answer of Add, of a path that is there.
func checkOwnCodes(t *testing.T, x both, p []string) {
	t.Helper()
	first, _ := x.d.Add(p)
	second, _ := x.d.Add(p)
	want := slices.Clone(first)
	for i := range first {
		first[i] = -1
	}
	_ = append(first, -1, -1)
	third, _ := x.d.Add(p)
	if !slices.Equal(second, want) || !slices.Equal(third, want) {
		t.Errorf("Add(%q) is no list of its own", p)
	}
}

// R4: nil and empty lists are one.
func TestNilAndEmpty(t *testing.T) {
	for _, x := range some(t) {
		for _, p := range [][]string{nil, {}, make([]string, 0, 5)} {
			x.refuse(t, api.ErrName, p...)
			if n, e := x.d.Code(p); n != 0 || e != api.OK {
				t.Errorf("Code of no name is %d, %v", n, e)
			}
		}
	}
}

// R5: two that were told the same tell the same.
func TestToldTheSame(t *testing.T) {
	for seed := range 30 {
		levels := 1 + seed%mostLevels
		first, second := grown(t, levels, seed, 40), grown(t, levels, seed, 40)
		for range 3 {
			if !bytes.Equal(first.d.Put(nil), second.d.Put(nil)) || !bytes.Equal(first.d.Put(nil), first.d.Copy().Put(nil)) {
				t.Errorf("seed %d: other bytes", seed)
			}
		}
	}
}
