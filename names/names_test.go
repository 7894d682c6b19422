package names_test

import (
	"math"
	"slices"
	"strings"
	"testing"

	"tesseract/api"
	"tesseract/names"
)

// allowed is the bytes that may stand in a name, one by one.
const allowed = "abcdefghijklmnopqrstuvwxyz0123456789-_"

const (
	longest = "abcdefghij-9"  // 12 bytes
	tooLong = "abcdefghij-98" // 13 bytes
)

// name is whether a text is a name, by the words of the document, byte by byte.
func name(s string) bool {
	ok := len(s) >= 1 && len(s) <= 12
	for i := range len(s) {
		ok = ok && strings.IndexByte(allowed, s[i]) >= 0
	}
	return ok
}

// path is whether a list is a path, by the words of the document.
func path(p []string) bool {
	ok := len(p) <= 3
	for _, s := range p {
		ok = ok && name(s)
	}
	return ok
}

// text is the text of a path.
func text(p []string) string {
	switch len(p) {
	case 0:
		return "*"
	case 1:
		return p[0]
	}
	return p[0] + "/" + text(p[1:])
}

// under is whether a list begins with the texts of another one.
func under(p, q []string) bool {
	for i, s := range q {
		if i >= len(p) || p[i] != s {
			return false
		}
	}
	return true
}

// order is how two lists stand in the order of paths, text by text.
func order(p, q []string) int {
	switch {
	case len(p) == 0 && len(q) == 0:
		return 0
	case len(p) == 0:
		return -1
	case len(q) == 0:
		return 1
	}
	if first := strings.Compare(p[0], q[0]); first != 0 {
		return first
	}
	return order(p[1:], q[1:])
}

// roomy is a list with spare room, in which others' texts stand: all of that, and the list.
func roomy(p []string) ([]string, []string) {
	all := append(slices.Clone(p), "others", "a", "", "b")
	return all, all[:len(p)]
}

// checkName asks Name twice, and holds the answers against what is wanted.
func checkName(t *testing.T, s string, want bool) {
	t.Helper()
	if got := names.Name(s); got != want || names.Name(s) != got {
		t.Errorf("Name(%q) is %v", s, got)
	}
}

// checkMay asks May, of the list with spare room and without, and holds the answers against what is wanted, and the list against what it was.
func checkMay(t *testing.T, p []string, want bool) {
	t.Helper()
	all, l := roomy(p)
	before := slices.Clone(all)
	if got := names.May(l); got != want || names.May(slices.Clip(slices.Clone(p))) != got {
		t.Errorf("May(%q) is %v", p, got)
	}
	if !slices.Equal(all, before) {
		t.Errorf("May changed %q to %q", before, all)
	}
}

// checkText asks Text, of the list with spare room and without, and holds the answers against what is wanted, and the list against what it was.
func checkText(t *testing.T, p []string, want string, errno api.Errno) {
	t.Helper()
	all, l := roomy(p)
	before := slices.Clone(all)
	for _, x := range [][]string{l, slices.Clip(slices.Clone(p))} {
		if got, e := names.Text(x); got != want || e != errno {
			t.Errorf("Text(%q) is %q, %v, not %q, %v", p, got, e, want, errno)
		}
	}
	if !slices.Equal(all, before) {
		t.Errorf("Text changed %q to %q", before, all)
	}
}

// checkPath asks Path twice, and holds the answers against what is wanted.
func checkPath(t *testing.T, s string, want []string, errno api.Errno) {
	t.Helper()
	for range 2 {
		got, e := names.Path(s)
		if !slices.Equal(got, want) || e != errno {
			t.Errorf("Path(%q) is %q, %v, not %q, %v", s, got, e, want, errno)
		}
		if e != api.OK && got != nil {
			t.Errorf("Path(%q): beside an error the list is not nil", s)
		}
	}
}

// checkUnder asks Under, of the lists with spare room and without, and holds the answers against what is wanted, and the lists against what they were.
func checkUnder(t *testing.T, p, q []string, want bool) {
	t.Helper()
	allP, l := roomy(p)
	allQ, m := roomy(q)
	beforeP, beforeQ := slices.Clone(allP), slices.Clone(allQ)
	if got := names.Under(l, m); got != want || names.Under(slices.Clone(p), slices.Clone(q)) != got {
		t.Errorf("Under(%q, %q) is %v", p, q, got)
	}
	if !slices.Equal(allP, beforeP) || !slices.Equal(allQ, beforeQ) {
		t.Errorf("Under changed %q to %q, or %q to %q", beforeP, allP, beforeQ, allQ)
	}
}

// checkCmp asks Cmp both ways round, of the lists with spare room and without, and holds the answers against what is wanted, and the lists against what they were.
func checkCmp(t *testing.T, p, q []string, want int) {
	t.Helper()
	allP, l := roomy(p)
	allQ, m := roomy(q)
	beforeP, beforeQ := slices.Clone(allP), slices.Clone(allQ)
	if got := names.Cmp(l, m); got != want || names.Cmp(slices.Clone(p), slices.Clone(q)) != got {
		t.Errorf("Cmp(%q, %q) is %d, not %d", p, q, got, want)
	}
	if got := names.Cmp(m, l); got != -want || names.Cmp(slices.Clone(q), slices.Clone(p)) != got {
		t.Errorf("Cmp(%q, %q) is %d, not %d", q, p, got, -want)
	}
	if !slices.Equal(allP, beforeP) || !slices.Equal(allQ, beforeQ) {
		t.Errorf("Cmp changed %q to %q, or %q to %q", beforeP, allP, beforeQ, allQ)
	}
}

// scribble writes into a list, into all its room, and behind it.
func scribble(p []string) {
	for i := range p[:cap(p)] {
		p[:cap(p)][i] = "scribble"
	}
	_ = append(p, "scribble", "scribble")
}

// checkUp asks Up, of the list with spare room and without, and holds the answers against what is wanted; then it writes into one answer, and holds the list and the other answer against what they were.
func checkUp(t *testing.T, p []string, n int, want []string) {
	t.Helper()
	all, l := roomy(p)
	before := slices.Clone(all)
	first, second, third := names.Up(l, n), names.Up(l, n), names.Up(slices.Clip(slices.Clone(p)), n)
	for _, got := range [][]string{first, second, third} {
		if !slices.Equal(got, want) {
			t.Errorf("Up(%q, %d) is %q, not %q", p, n, got, want)
		}
	}
	scribble(first)
	if !slices.Equal(all, before) {
		t.Errorf("what was written into Up(%q, %d) changed %q to %q", p, n, before, all)
	}
	if !slices.Equal(second, want) {
		t.Errorf("what was written into one answer of Up(%q, %d) changed another one to %q", p, n, second)
	}
	scribble(all)
	if !slices.Equal(second, want) {
		t.Errorf("what was written into %q changed an answer of Up(.., %d) to %q", before, n, second)
	}
}

// goodNames is names: ordinary ones, at the edges, such as begin with one another, and such as stand otherwise in the order by their letters than by a text in which `/` stands behind them.
func goodNames() []string {
	return []string{"a", "b", "z", "0", "9", "-", "_", "ab", "a-", "a_", "a0", "aa", "a-b", "b-1", "--", "-a", "0a", longest, "zzzzzzzzzzzz", "____________", "------------", "000000000000"}
}

// badNames is texts that are no names: with each byte that stands beside an allowed one, with bytes above 127, alone and as letters, and too long ones.
func badNames() []string {
	return []string{
		"", "*", "/", " ", "A", "Z", "aB", "a b", " a", "a ", "a*", "*a", "**", "a.b", "a/b", "/a", "a/", "a\n", "\ta", "\x00", "a\x00",
		"`", "{", "/", ":", ",", ".", "^", "@", "[", "\x7f", "+", "a`", "{a", "0:", "-,", "-.", "_^", "_`",
		"\x80", "\xff", "a\x80", "\xffa", "\xe1", "a\xe1b", "é", "aé", "ß", "š", "\u0100", "ɑ", "а", "ａ", "０", "\uff3f", "\u2010", "\U0001F461", "\U00010061", "\U0010ffff",
		"\xc1\xa1", "\xe0\x81\xa1", "\xed\xa0\x80", "\xf4\x90\x80\x80", "\xc3", "a\xc3", "\ufffd", "éééééé", "ééééééa",
		tooLong, strings.Repeat("a", 13), strings.Repeat("-", 14), strings.Repeat("z", 24), strings.Repeat("x", 256), strings.Repeat("x", 268), strings.Repeat("y", 65537),
	}
}

// goodPaths is paths: of no name, and all of one, two and three of some names.
func goodPaths() [][]string {
	l := [][]string{nil, {}}
	for _, a := range goodNames() {
		l = append(l, []string{a})
		for _, b := range goodNames() {
			l = append(l, []string{a, b}, []string{a, b, "a"}, []string{a, "a", b}, []string{"a", b, a}, []string{a, b, a})
		}
	}
	return append(l, []string{longest, longest, longest})
}

// badPaths is lists that are no paths: too long ones, and with a wrong name at each place.
func badPaths() [][]string {
	l := [][]string{{"a", "b", "c", "d"}, {"a", "a", "a", "a", "a"}, {"a", "b", "c", ""}, {"", "", "", ""}, {"a", "b", "c", "D"}, slices.Repeat([]string{"a"}, 6), slices.Repeat([]string{"a"}, 259)}
	for _, bad := range badNames() {
		for length := 1; length <= 3; length++ {
			for place := range length {
				p := slices.Repeat([]string{"a"}, length)
				p[place] = bad
				l = append(l, p)
			}
		}
	}
	return l
}

// someLists is lists of any texts, paths and others: few enough to be held against one another, three by three.
func someLists() [][]string {
	return [][]string{
		nil, {"a"}, {"a", "b"}, {"a", "b", "c"}, {"a", "b", "d"}, {"a", "c"}, {"a", "c", "b"}, {"b"}, {"b", "a"}, {"b", "a", "a"}, {"ab"}, {"ab", "a"}, {"a-"}, {"a-", "b"}, {"a_"}, {"a0"}, {"a0", "b", "c"}, {"-"}, {"-", "-"}, {"--"}, {"_"}, {"0"}, {"9"}, {"z"}, {longest}, {longest, longest, longest},
		{""}, {"", ""}, {"", "", "", ""}, {"", "a"}, {"a", ""}, {"a", "", ""}, {"a", "", "b"}, {"A"}, {"a", "B"}, {"*"}, {"a", "*"}, {"/"}, {"a/b"}, {"a/", "b"}, {"a/b", "c"}, {"é"}, {"a", "é"}, {"\xff"}, {"\xff", "\xff"}, {"\xfe\xff"}, {"\x00"}, {"a\x00"}, {"a", "\x00"}, {"\x80"}, {"\ufffd"}, {"a", "b", "c", "d"}, {"a", "b", "c", "d", "e"}, {"a", "b", "c", "e"}, {"a", "b", "c", ""}, {tooLong}, {strings.Repeat("a", 300)}, {strings.Repeat("a", 300), "b"},
	}
}

// P6.1: each byte alone, and at each place among others.
func TestNameOfEachByte(t *testing.T) {
	for i := range 256 {
		b := []byte{byte(i)}
		want := strings.IndexByte(allowed, byte(i)) >= 0
		checkName(t, string(b), want)
		checkName(t, string(b)+string(b), want)
		for length := 2; length <= 13; length++ {
			for place := range length {
				l := []byte(strings.Repeat("a", length))
				l[place] = b[0]
				checkName(t, string(l), want && length <= 12)
			}
		}
	}
}

// P6.1: each length of names of each allowed byte: 12 is the longest.
func TestNameOfEachLength(t *testing.T) {
	for i := range len(allowed) {
		for length := range 40 {
			checkName(t, strings.Repeat(allowed[i:i+1], length), length >= 1 && length <= 12)
		}
	}
	for _, length := range []int{255, 256, 257, 268, 65535, 65536, 65537, 65548, 1 << 22} {
		checkName(t, strings.Repeat("a", length), false)
	}
}

// P6.1: names, and what is beside them.
func TestName(t *testing.T) {
	for _, s := range goodNames() {
		checkName(t, s, true)
	}
	for _, s := range badNames() {
		checkName(t, s, false)
	}
}

// P6.1: no letter of more than one byte may stand in a name, also none whose lowest bits are an allowed one's; its length is that of its bytes.
func TestNameOfLetters(t *testing.T) {
	for r := rune(128); r <= 0x10ffff; r++ {
		if s := string(r); names.Name(s) || names.Name("a"+s) || names.Name(s+"a") {
			t.Fatalf("Name of the letter %d, alone or beside a, is true", r)
		}
	}
	for _, s := range []string{"é", "ａ", "\U0001F461"} {
		for times := range 15 {
			checkName(t, strings.Repeat(s, times), false)
		}
	}
}

// P6.1: pairs of any bytes, of which some are letters, and some no letter's.
func TestNameOfPairs(t *testing.T) {
	for i := range 256 {
		for j := range 256 {
			s := string([]byte{byte(i), byte(j)})
			if names.Name(s) != name(s) {
				t.Errorf("Name(%q) is %v", s, !name(s))
			}
		}
	}
}

// P6.1: what is a path, and what is none.
func TestMay(t *testing.T) {
	for _, p := range goodPaths() {
		checkMay(t, p, true)
	}
	for _, p := range badPaths() {
		checkMay(t, p, false)
	}
	for length := range 12 {
		checkMay(t, slices.Repeat([]string{"a"}, length), length <= 3)
		checkMay(t, slices.Repeat([]string{longest}, length), length <= 3)
		checkMay(t, slices.Repeat([]string{""}, length), length == 0)
		checkMay(t, slices.Repeat([]string{"*"}, length), length == 0)
	}
	for _, p := range someLists() {
		checkMay(t, p, path(p))
	}
}

// P6.1: the examples, and texts by hand.
func TestText(t *testing.T) {
	for _, x := range []struct {
		p     []string
		want  string
		errno api.Errno
	}{
		{[]string{"a", "b-1"}, "a/b-1", api.OK}, {nil, "*", api.OK}, {[]string{}, "*", api.OK}, {[]string{"A"}, "", api.ErrName},
		{[]string{"a"}, "a", api.OK}, {[]string{"-"}, "-", api.OK}, {[]string{"a", "b", "c"}, "a/b/c", api.OK}, {[]string{"_", "0", "-"}, "_/0/-", api.OK},
		{[]string{longest}, longest, api.OK}, {[]string{longest, longest, longest}, "abcdefghij-9/abcdefghij-9/abcdefghij-9", api.OK},
		{[]string{"a", "b", "c", "d"}, "", api.ErrName}, {[]string{""}, "", api.ErrName}, {[]string{"*"}, "", api.ErrName}, {[]string{"a/b"}, "", api.ErrName}, {[]string{"a", ""}, "", api.ErrName}, {[]string{"", "a"}, "", api.ErrName}, {[]string{"a", "*"}, "", api.ErrName}, {[]string{tooLong}, "", api.ErrName},
	} {
		checkText(t, x.p, x.want, x.errno)
	}
}

// P6.1: the text of each path, and none of what is no path.
func TestTextOfAll(t *testing.T) {
	for _, p := range goodPaths() {
		checkText(t, p, text(p), api.OK)
	}
	for _, p := range badPaths() {
		checkText(t, p, "", api.ErrName)
	}
	for _, p := range someLists() {
		if !path(p) {
			checkText(t, p, "", api.ErrName)
		}
	}
}

// P6.1: the examples, and paths by hand.
func TestPath(t *testing.T) {
	for s, want := range map[string][]string{
		"*": nil, "a": {"a"}, "-": {"-"}, "a/b-1": {"a", "b-1"}, "a/b/c": {"a", "b", "c"}, "_/0/-": {"_", "0", "-"}, "a/a/a": {"a", "a", "a"},
		longest: {longest}, longest + "/" + longest + "/" + longest: {longest, longest, longest},
	} {
		checkPath(t, s, want, api.OK)
	}
}

// P6.1: texts that are no path's.
func TestPathOfWrong(t *testing.T) {
	l := []string{
		"", "/", "//", "///", "////", "a//b", "a/", "/a", "/a/", "a/b/", "/a/b", "a/b/c/", "/a/b/c", "a//", "//a", "a/b//", "a//b/c", "a/b//c", "a///b", "a/b/c//",
		"**", "* ", " *", "*/", "/*", "*/a", "a/*", "a*", "*a", "*/*", "a/*/b", "a/b/*", "*/a/b", "*\x00", "**/a", "a/b/c/*", "*/*/*",
		"A", "A/b", "a/B", "a/b/C", "a b", " a", "a ", " ", "a/ b", "a /b", "a/b ", "a\n", "\n", "a/\x00", "é", "a/é", "é/a", "\xff", "a/\xff", "a\\b", "a.b", "a,b", "a:b",
		"a/b/c/d", "a/b/c/d/e", "a/b/c/*/d", "a/b/c/D", "a/b/c/d/", tooLong, tooLong + "/a", "a/" + tooLong, "a/b/" + tooLong, longest + "/" + longest + "/" + longest + "/", longest + "/" + longest + "/" + longest + "/a",
		strings.Repeat("a/", 100), strings.Repeat("a/", 1<<20), strings.Repeat("/", 1<<20), strings.Repeat("a", 1<<20), strings.Repeat("*", 1<<20),
	}
	for _, s := range l {
		checkPath(t, s, nil, api.ErrName)
	}
	for _, bad := range badNames() {
		for _, s := range []string{bad, bad + "/a", "a/" + bad, "a/" + bad + "/a", "a/a/" + bad} {
			if s != "*" && !path(strings.Split(s, "/")) { // as a bad name with `/` inside may be two good ones
				checkPath(t, s, nil, api.ErrName)
			}
		}
	}
}

// P6.1: each byte beside names, between them, and alone behind `/`.
func TestPathOfEachByte(t *testing.T) {
	for i := range 256 {
		b := string([]byte{byte(i)})
		if b == "/" || b == "*" {
			continue
		}
		for _, p := range [][]string{{b}, {"a" + b + "b"}, {b, "a"}, {"a", b}, {"a", "x" + b}, {b + "x", "a", "b"}, {"a", b, "b"}, {"a", "b", b}} {
			if name(b) {
				checkPath(t, text(p), p, api.OK)
			} else {
				checkPath(t, text(p), nil, api.ErrName)
			}
		}
	}
}

// P6.1: what is written into an answer of Path changes no other one.
func TestPathIsItsOwn(t *testing.T) {
	for _, p := range goodPaths() {
		s := text(p)
		first, _ := names.Path(s)
		second, _ := names.Path(s)
		scribble(first)
		checkPath(t, s, p, api.OK)
		if !slices.Equal(second, p) {
			t.Errorf("what was written into one answer of Path(%q) changed another one to %q", s, second)
		}
	}
}

// P6.2: the examples, and what stands under what by hand.
func TestUnder(t *testing.T) {
	for _, x := range []struct {
		p, q []string
		want bool
	}{
		{[]string{"a", "b"}, []string{"a"}, true}, {[]string{"a"}, []string{"a", "b"}, false}, {nil, nil, true}, {nil, []string{}, true}, {[]string{}, nil, true},
		{[]string{"a"}, nil, true}, {nil, []string{"a"}, false}, {nil, []string{""}, false}, {[]string{""}, nil, true}, {[]string{""}, []string{""}, true},
		{[]string{"a", "b", "c"}, []string{"a", "b", "c"}, true}, {[]string{"a", "b", "c"}, []string{"a", "b"}, true}, {[]string{"a", "b", "c"}, []string{"a", "b", "d"}, false}, {[]string{"a", "b", "c"}, []string{"a", "d", "c"}, false}, {[]string{"a", "b", "c"}, []string{"d", "b", "c"}, false},
		{[]string{"a", "b", "c"}, []string{"b"}, false}, {[]string{"a", "b", "c"}, []string{"b", "c"}, false}, {[]string{"a", "b", "c"}, []string{"a", "c"}, false},
		{[]string{"ab"}, []string{"a"}, false}, {[]string{"a"}, []string{"ab"}, false}, {[]string{"ab", "c"}, []string{"a"}, false}, {[]string{"a", "bc"}, []string{"a", "b"}, false}, {[]string{"a", "b"}, []string{"ab"}, false}, {[]string{"ab"}, []string{"a", "b"}, false}, {[]string{"a/b"}, []string{"a"}, false},
		{[]string{"a", "", "b"}, []string{"a", ""}, true}, {[]string{"a"}, []string{"a", ""}, false}, {[]string{"a", ""}, []string{"a"}, true}, {[]string{"a", "b", "c", "d", "e"}, []string{"a", "b", "c", "d"}, true}, {[]string{"a", "b", "c", "d"}, []string{"a", "b", "c", "e"}, false}, {[]string{"a"}, []string{"*"}, false}, {[]string{"\xff"}, []string{"\xfe"}, false}, {[]string{"\xff"}, []string{"\ufffd"}, false},
	} {
		checkUnder(t, x.p, x.q, x.want)
	}
}

// P6.2: what is in the spare room of a list is none of its texts.
func TestUnderOfSpareRoom(t *testing.T) {
	all := []string{"a", "b", "c"}
	for length := range 3 {
		if names.Under(all[:length], all[:length+1]) || names.Cmp(all[:length], all[:length+1]) != -1 || len(names.Up(all[:length], 3)) != length {
			t.Errorf("what stands behind the first %d counts", length)
		}
	}
}

// P6.2: a list is under itself, and under all that it begins with, and no more so where one text is another one, at each place.
func TestUnderAndCmpOfParts(t *testing.T) {
	for length := range 9 {
		p := make([]string, length)
		for i := range p {
			p[i] = "mm"
		}
		checkUnder(t, p, p, true)
		checkCmp(t, p, p, 0)
		for part := range length {
			checkUnder(t, p, p[:part], true)
			checkUnder(t, p[:part], p, false)
			checkCmp(t, p[:part], p, -1)
			for place := range part + 1 {
				for other, want := range map[string]int{"m": 1, "ma": 1, "l": 1, "lz": 1, "": 1, "\x00": 1, "mmm": -1, "mn": -1, "n": -1, "mm\x00": -1, "\xff": -1} {
					q := slices.Clone(p[:part+1])
					q[place] = other
					checkUnder(t, p, q, false)
					checkUnder(t, q, p, false)
					checkCmp(t, p, q, want)
				}
			}
		}
	}
}

// P6.2: of any two lists of any texts.
func TestUnderAndCmpOfAll(t *testing.T) {
	for _, p := range someLists() {
		for _, q := range someLists() {
			checkUnder(t, p, q, under(p, q))
			checkCmp(t, p, q, order(p, q))
		}
	}
	l := goodPaths()
	for i, p := range l {
		for j := i % 31; j < len(l); j += 31 {
			checkUnder(t, p, l[j], under(p, l[j]))
			checkCmp(t, p, l[j], order(p, l[j]))
		}
	}
}

// P6.2: the order by hand: name by name, as texts, and not as the paths' texts, in which `-` comes ahead of `/`.
func TestCmp(t *testing.T) {
	checkCmp(t, []string{"a"}, []string{"a", "b"}, -1)
	l := [][]string{nil, {""}, {"", "a"}, {"*"}, {"-"}, {"-", "z"}, {"--"}, {"0"}, {"9"}, {"A"}, {"_"}, {"a"}, {"a", "", ""}, {"a", "-"}, {"a", "a"}, {"a", "b"}, {"a", "b", "a"}, {"a", "b", "c"}, {"a", "b", "c", "a"}, {"a", "b-"}, {"a", "ba"}, {"a", "z"}, {"a\x00"}, {"a-"}, {"a-", "a"}, {"a/b"}, {"a0"}, {"a_"}, {"aa"}, {"ab"}, {"b"}, {"b", "a"}, {"z"}, {"é"}, {"\xff"}, {"\xff", ""}, {"\xff\xff"}}
	for i, p := range l {
		for j, q := range l {
			want := 0
			if i < j {
				want = -1
			} else if i > j {
				want = 1
			}
			checkCmp(t, p, q, want)
		}
	}
}

// P6.2: how many names Up answers, from far below none to far above all.
func TestUp(t *testing.T) {
	l := append(someLists(), slices.Repeat([]string{"a", "b", ""}, 100))
	for _, p := range l {
		all := slices.Clone(p)
		for _, n := range []int{math.MinInt, math.MinInt + 1, -1 << 32, -len(p), -2, -1, 0} {
			checkUp(t, p, n, nil)
		}
		for n := range len(p) + 1 {
			checkUp(t, p, n, all[:n])
		}
		for _, n := range []int{len(p), len(p) + 1, len(p) + 2, len(p) + 4, len(p) + 5, len(p) + 100, 1 << 31, 1 << 32, 1<<32 + 1, math.MaxInt - 1, math.MaxInt} {
			checkUp(t, p, n, all)
		}
	}
	checkUp(t, []string{"a", "b", "c"}, 1, []string{"a"})
	checkUp(t, []string{"a", "b", "c"}, 2, []string{"a", "b"})
	checkUp(t, []string{"a", "b", "c"}, 3, []string{"a", "b", "c"})
}

// P6.2: two answers of Up of one list, the shorter one first: what is appended to that changes neither the list nor the other answer.
func TestUpIsItsOwn(t *testing.T) {
	all, p := roomy([]string{"a", "b", "c"})
	for n := range 4 {
		before := slices.Clone(all)
		short, long := names.Up(p, n), names.Up(p, 3)
		_ = append(short, "x")
		_ = append(long, "y")
		_ = append(names.Up(short, n), "z")
		if !slices.Equal(all, before) || !slices.Equal(short, before[:n]) || !slices.Equal(long, before[:3]) {
			t.Errorf("behind appending to Up(.., %d): %q, %q, %q", n, all, short, long)
		}
	}
}

// P6.3: Path of Text is the path.
func TestPathOfText(t *testing.T) {
	for _, p := range goodPaths() {
		s, e := names.Text(p)
		if e != api.OK {
			t.Errorf("Text(%q): %v", p, e)
		}
		checkPath(t, s, p, api.OK)
	}
}

// shortPaths is, by its text, each path whose text has at most so many bytes, of names of the given bytes alone.
func shortPaths(bytes string, most int) map[string][]string {
	words := []string{""}
	for at := 0; at < len(words); at++ {
		for _, b := range bytes {
			if len(words[at]) < most {
				words = append(words, words[at]+string(b))
			}
		}
	}
	words = words[1:]
	out := map[string][]string{"*": nil}
	for _, a := range words {
		out[a] = []string{a}
		for _, b := range words {
			if len(a+b)+1 > most {
				continue
			}
			out[a+"/"+b] = []string{a, b}
			for _, c := range words {
				if len(a+b+c)+2 <= most {
					out[a+"/"+b+"/"+c] = []string{a, b, c}
				}
			}
		}
	}
	return out
}

// P6.3: all texts of up to 7 of some bytes: Path answers just those that are a path's, each its own, and Text of that is the text again.
func TestTextOfPath(t *testing.T) {
	want := shortPaths("a-", 7)
	found := 0
	texts := []string{""}
	for at := 0; at < len(texts); at++ {
		s := texts[at]
		for _, b := range "a-/*A" {
			if len(s) < 7 {
				texts = append(texts, s+string(b))
			}
		}
		p, e := names.Path(s)
		w, ok := want[s]
		if ok != (e == api.OK) || !slices.Equal(p, w) {
			t.Errorf("Path(%q) is %q, %v", s, p, e)
		}
		if !ok {
			continue
		}
		found++
		if again, e := names.Text(p); again != s || e != api.OK {
			t.Errorf("Text of Path of %q is %q, %v", s, again, e)
		}
	}
	if found != len(want) {
		t.Errorf("%d of %d paths were found", found, len(want))
	}
}

// P6.3: no two paths have one text.
func TestTextsDiffer(t *testing.T) {
	seen := map[string][]string{}
	for _, p := range goodPaths() {
		s, _ := names.Text(p)
		if q, ok := seen[s]; ok && !slices.Equal(p, q) {
			t.Errorf("%q and %q have the text %q", p, q, s)
		}
		seen[s] = p
	}
}

// P6.3: Cmp is an order: of two it says the same both ways round, 0 of the same ones alone, and of three one behind the other it holds of the outer ones.
func TestCmpIsAnOrder(t *testing.T) {
	l := append(someLists(), goodPaths()[:80]...)
	for _, p := range l {
		for _, q := range l {
			d := names.Cmp(p, q)
			if d != -names.Cmp(q, p) || d < -1 || d > 1 || (d == 0) != slices.Equal(p, q) {
				t.Errorf("Cmp(%q, %q) is %d, and the other way round %d", p, q, d, names.Cmp(q, p))
			}
			if d > 0 {
				continue
			}
			for _, r := range l {
				if names.Cmp(q, r) <= 0 && (names.Cmp(p, r) > 0 || d < 0 && names.Cmp(p, r) == 0) {
					t.Errorf("%q, %q, %q: no order", p, q, r)
				}
			}
		}
	}
}

// P6.3: what stands under a list stands side by side in the order, that itself ahead of all.
func TestSideBySide(t *testing.T) {
	l := append(someLists(), goodPaths()...)
	slices.SortFunc(l, names.Cmp)
	l = slices.CompactFunc(l, slices.Equal)
	for at, q := range l {
		inside := true
		for i, p := range l {
			is := names.Under(p, q)
			switch {
			case is != under(p, q):
				t.Errorf("Under(%q, %q) is %v", p, q, is)
			case is && (i < at || !inside):
				t.Errorf("%q stands under %q, but not beside it", p, q)
			case i >= at && !is:
				inside = false
			}
		}
		if !names.Under(q, q) || !names.Under(q, nil) {
			t.Errorf("%q does not stand under itself, or under the path of no name", q)
		}
	}
}

// P6.3: Up tells just the paths under which one stands, the shorter ones first.
func TestUnderAllOfUp(t *testing.T) {
	for _, p := range goodPaths() {
		for n := range 5 {
			q := names.Up(p, n)
			if !names.May(q) {
				t.Errorf("Up(%q, %d) is %q, which is no path", p, n, q)
			}
			checkUnder(t, p, q, true)
			checkUnder(t, q, p, n >= len(p))
		}
	}
}

// R1: great lists and texts: each call ends, and tells what it is to tell.
func TestGreatOnes(t *testing.T) {
	long := slices.Repeat([]string{"a"}, 1<<20)
	checkMay(t, long, false)
	checkText(t, long, "", api.ErrName)
	checkUnder(t, long, long[:1<<19], true)
	checkUnder(t, long[:1<<19], long, false)
	checkCmp(t, long[:1<<19], long, -1)
	checkUp(t, long, 1<<19, slices.Clone(long[:1<<19]))
	checkUp(t, long, math.MaxInt, slices.Clone(long))
	checkPath(t, strings.Join(long, "/"), nil, api.ErrName)
	checkName(t, strings.Repeat("a", 1<<24), false)
}

// R4: nil and empty lists are one.
func TestNilAndEmpty(t *testing.T) {
	for _, p := range [][]string{nil, {}, make([]string, 0, 5)} {
		checkMay(t, p, true)
		checkText(t, p, "*", api.OK)
		for _, n := range []int{math.MinInt, -1, 0, 1, math.MaxInt} {
			checkUp(t, p, n, nil)
		}
		for _, q := range [][]string{nil, {}, make([]string, 0, 5)} {
			checkUnder(t, p, q, true)
			checkCmp(t, p, q, 0)
		}
		checkUnder(t, []string{"a"}, p, true)
		checkUnder(t, p, []string{"a"}, false)
		checkCmp(t, p, []string{"a"}, -1)
	}
}
