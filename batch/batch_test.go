package batch_test

import (
	"bytes"
	"encoding/binary"
	"math"
	"slices"
	"strings"
	"testing"

	"tesseract/api"
	"tesseract/batch"
	"tesseract/schema"
	"tesseract/wire"
)

const (
	mostFacts    = 8
	mostDims     = 3
	mostLevels   = 3
	mostMeasures = 2
	mostValue    = 1 << 61
	mostText     = 38
	longest      = "abcdefghij-9"  // 12 bytes
	tooLong      = "abcdefghij-98" // 13 bytes
)

// goodNames is texts that are names.
var goodNames = []string{"a", "z", "0", "9", "-", "_", "a-b_0", longest}

// badNames is texts that are no names.
var badNames = []string{"", "A", "a/b", "/", "*", "a ", " a", "é", "\x00", "\xff", "a.", "a\n", "`", "{", ":", tooLong, strings.Repeat("a", 300)}

// goodValues is numbers that are values.
var goodValues = []int{0, 1, -1, 63, 64, -64, -65, 1 << 40, -1 << 40, mostValue - 1, mostValue, 1 - mostValue, -mostValue}

// badValues is numbers that are no values.
var badValues = []int{mostValue + 1, -mostValue - 1, 1 << 62, -1 << 62, math.MaxInt, math.MaxInt - 1, math.MinInt, math.MinInt + 1}

// badTexts is texts of at most so many bytes as a path's text has, that are no path's.
var badTexts = []string{"", "A", "a/", "/a", "/", "a//b", "**", "*/a", "a/*", "a b", "é", "\x00", "\xff", "a/b/c/d", "a/b/c/", tooLong, "a/" + tooLong, tooLong + "/a", strings.Repeat("a", mostText), strings.Repeat("a/", mostText/2), strings.Repeat("/", mostText)}

// isName tells by the words of the document whether a text is a name.
func isName(s string) bool {
	for i := range len(s) {
		if !strings.Contains("abcdefghijklmnopqrstuvwxyz0123456789-_", s[i:i+1]) {
			return false
		}
	}
	return len(s) >= 1 && len(s) <= 12
}

// isPath tells whether names are a path.
func isPath(p []string) bool {
	for _, s := range p {
		if !isName(s) {
			return false
		}
	}
	return len(p) <= mostLevels
}

// isPlain tells whether a fact is plain.
func isPlain(f api.Fact) bool {
	for _, p := range f.Paths {
		if !isPath(p) {
			return false
		}
	}
	for _, n := range f.Values {
		if n < -mostValue || n > mostValue {
			return false
		}
	}
	return len(f.Paths) <= mostDims && len(f.Values) <= mostMeasures
}

// fits tells whether a fact may be for a schema that may be.
func fits(s api.Schema, f api.Fact) bool {
	if len(f.Paths) != len(s.Dims) || len(f.Values) != len(s.Measures) || !isPlain(f) {
		return false
	}
	for i, d := range s.Dims {
		if len(f.Paths[i]) != len(d.Levels) {
			return false
		}
	}
	return true
}

// may is what May is to answer.
func may(s api.Schema, l []api.Fact) api.Errno {
	switch {
	case !schema.May(s):
		return api.ErrSchema
	case len(l) < 1 || len(l) > mostFacts:
		return api.ErrFacts
	}
	for _, f := range l {
		if !fits(s, f) {
			return api.ErrFact
		}
	}
	return api.OK
}

// put is what Put is to answer. The library's numbers of changing length have wire's form when they are put.
func put(b []byte, l []api.Fact) ([]byte, api.Errno) {
	if len(l) > mostFacts {
		return nil, api.ErrFacts
	}
	for _, f := range l {
		if !isPlain(f) {
			return nil, api.ErrFact
		}
	}
	return bytesOf(b, l), api.OK
}

// bytesOf is facts as bytes, plain or not.
func bytesOf(b []byte, l []api.Fact) []byte {
	all := binary.AppendVarint(bytes.Clone(b), int64(len(l)))
	for _, f := range l {
		all = binary.AppendVarint(all, int64(len(f.Paths)))
		for _, p := range f.Paths {
			all = putText(all, textOf(p))
		}
		all = binary.AppendVarint(all, int64(len(f.Values)))
		for _, n := range f.Values {
			all = binary.AppendVarint(all, int64(n))
		}
	}
	return all
}

// putText puts a text behind bytes.
func putText(b []byte, s string) []byte { return append(binary.AppendVarint(b, int64(len(s))), s...) }

// textOf is a path's text.
func textOf(p []string) string {
	if len(p) == 0 {
		return "*"
	}
	return strings.Join(p, "/")
}

// pathOf is the path of a text, and whether it is one's.
func pathOf(s string) ([]string, bool) {
	if s == "*" {
		return nil, true
	}
	p := strings.Split(s, "/")
	return p, isPath(p)
}

// fact is one of paths, told by their texts, and values.
func fact(paths string, values ...int) api.Fact {
	f := api.Fact{Values: values}
	for _, s := range strings.Fields(paths) {
		p, _ := pathOf(s)
		f.Paths = append(f.Paths, p)
	}
	return f
}

// cube is a schema that may be.
func cube() api.Schema {
	return api.Schema{
		Dims: []api.Dim{
			{Name: "place", Levels: []string{"land", "town"}},
			{Name: "day", Levels: []string{"year", "month", "date"}},
		},
		Measures: []string{"sold"},
		Views:    [][]int{{1, 0}, {0, 2}},
	}
}

// sized is a schema of dimensions with so many levels each, and so many measures, with a view if it has room for one.
func sized(measures int, levels ...int) api.Schema {
	some := []string{"a", "b", "c", "d", "e"}
	s := api.Schema{Measures: some[:measures]}
	for i, n := range levels {
		s.Dims = append(s.Dims, api.Dim{Name: some[i], Levels: some[:n]})
	}
	if len(levels) > 0 {
		s.Views = [][]int{make([]int, len(levels))}
	}
	return s
}

// fit is a fact that may be for a schema, another one for each seed.
func fit(s api.Schema, seed int) api.Fact {
	var f api.Fact
	for i, d := range s.Dims {
		var p []string
		for level := range d.Levels {
			p = append(p, goodNames[(seed+3*i+level)%len(goodNames)])
		}
		f.Paths = append(f.Paths, p)
	}
	for i := range s.Measures {
		f.Values = append(f.Values, goodValues[(seed+5*i)%len(goodValues)])
	}
	return f
}

// fitting is so many facts that may be for a schema.
func fitting(s api.Schema, count int) []api.Fact {
	var l []api.Fact
	for seed := range count {
		l = append(l, fit(s, seed))
	}
	return l
}

// roomy is a list in memory of its own, with others in the room behind it.
func roomy[T any](l []T, other T) []T {
	return append(append(make([]T, 0, len(l)+2), l...), other, other)[:len(l)]
}

// copied is facts in memory of their own, with others in the room behind each of their lists.
func copied(l []api.Fact) []api.Fact {
	var c []api.Fact
	for _, f := range l {
		var paths [][]string
		for _, p := range f.Paths {
			paths = append(paths, roomy(p, "others"))
		}
		c = append(c, api.Fact{Paths: roomy(paths, []string{"others"}), Values: roomy(f.Values, 77)})
	}
	return roomy(c, api.Fact{Paths: [][]string{{"others"}}, Values: []int{77}})
}

// copiedSchema is a schema in memory of its own, with others in the room behind each of its lists.
func copiedSchema(s api.Schema) api.Schema {
	c := api.Schema{Measures: roomy(s.Measures, "others")}
	for _, d := range s.Dims {
		c.Dims = append(c.Dims, api.Dim{Name: d.Name, Levels: roomy(d.Levels, "others")})
	}
	for _, v := range s.Views {
		c.Views = append(c.Views, roomy(v, 77))
	}
	c.Dims = roomy(c.Dims, api.Dim{Name: "others", Levels: []string{"o"}})
	c.Views = roomy(c.Views, []int{77})
	return c
}

// all is a list with the room behind it.
func all[T any](l []T) []T { return l[:cap(l)] }

// same tells whether facts are the same.
func same(l, c []api.Fact) bool {
	return slices.EqualFunc(l, c, func(f, g api.Fact) bool {
		return slices.Equal(f.Values, g.Values) && slices.EqualFunc(f.Paths, g.Paths, slices.Equal)
	})
}

// sameWithRoom tells whether facts are the same, with what stands in the room behind their lists.
func sameWithRoom(l, c []api.Fact) bool {
	return slices.EqualFunc(all(l), all(c), func(f, g api.Fact) bool {
		return slices.Equal(all(f.Values), all(g.Values)) &&
			slices.EqualFunc(all(f.Paths), all(g.Paths), func(p, q []string) bool { return slices.Equal(all(p), all(q)) })
	})
}

// sameSchema tells whether schemas are the same, with what stands in the room behind their lists.
func sameSchema(s, c api.Schema) bool {
	return slices.Equal(all(s.Measures), all(c.Measures)) &&
		slices.EqualFunc(all(s.Views), all(c.Views), func(v, w []int) bool { return slices.Equal(all(v), all(w)) }) &&
		slices.EqualFunc(all(s.Dims), all(c.Dims), func(d, e api.Dim) bool {
			return d.Name == e.Name && slices.Equal(all(d.Levels), all(e.Levels))
		})
}

// unchanged calls with facts that have others behind their lists, and that are to be behind the call what they were.
func unchanged(t *testing.T, l []api.Fact, call func([]api.Fact)) {
	t.Helper()
	mine := copied(l)
	call(mine)
	if !sameWithRoom(mine, copied(l)) {
		t.Errorf("%v is changed to %v", l, mine)
	}
}

// noise is small numbers without a pattern, the same at each call.
func noise(seed, count, below int) []int {
	l := make([]int, count)
	x := uint32(seed)*2654435761 + 12345
	for i := range l {
		x = x*1664525 + 1013904223
		l[i] = int(x>>16) % below
	}
	return l
}

// plains is lists of facts that are plain, of each number of facts, paths, names and values.
func plains() [][]api.Fact {
	l := [][]api.Fact{nil, {{}}, {{}, {}}, make([]api.Fact, mostFacts)}
	for count := 1; count <= mostFacts; count++ {
		l = append(l, fitting(cube(), count))
	}
	for paths := range mostDims + 1 {
		for values := range mostMeasures + 1 {
			for names := range mostLevels + 1 {
				s := sized(values, slices.Repeat([]int{names}, paths)...)
				l = append(l, fitting(s, 1), fitting(s, 3), append(fitting(s, 2), api.Fact{}, fact("* a", 1)))
			}
		}
	}
	l = append(l, fitting(sized(2, 3, 1, 2), mostFacts), greatest())
	for _, n := range goodValues {
		l = append(l, []api.Fact{fact("", n), fact("a", n, -n)})
	}
	return l
}

// greatest is facts of which each has as much as may be.
func greatest() []api.Fact {
	path := strings.Join(slices.Repeat([]string{longest}, mostLevels), "/")
	f := fact(strings.Join(slices.Repeat([]string{path}, mostDims), " "), -mostValue, mostValue)
	return slices.Repeat([]api.Fact{f}, mostFacts)
}

// amiss is facts that are not plain, one thing wrong in each.
func amiss() []api.Fact {
	l := []api.Fact{
		fact("a a a a", 1),
		fact("a a a a a", 1),
		fact("* * * *"),
		fact("a", 1, 2, 3),
		fact("", 0, 0, 0, 0),
		{Paths: slices.Repeat([][]string{{"a"}}, 257)},
		{Values: make([]int, 256)},
		{Values: make([]int, 300)},
		{Paths: [][]string{{"a", "b", "c", "d"}}},
		{Paths: [][]string{slices.Repeat([]string{"a"}, 256)}},
		{Paths: [][]string{slices.Repeat([]string{"a"}, 300)}},
	}
	for _, name := range badNames {
		for place := range mostDims {
			for level := range mostLevels {
				f := fact("a/b/c a/b/c a/b/c", 1, 2)
				f.Paths[place][level] = name
				l = append(l, f)
			}
		}
	}
	for _, n := range badValues {
		l = append(l, fact("a/b", n), fact("a/b", n, 0), fact("a/b", 0, n), fact("a/b", n, n), fact("", n), fact("", 0, n))
	}
	return l
}

// checkMay asks May, of facts as they are and with room behind their lists.
func checkMay(t *testing.T, s api.Schema, l []api.Fact, want api.Errno) {
	t.Helper()
	if may(s, l) != want {
		t.Fatalf("the test's own word on %v, %v is %v", s, l, may(s, l))
	}
	if e := batch.May(s, l); e != want {
		t.Errorf("May(%v, %v) is %v, not %v", s, l, e, want)
	}
	unchanged(t, l, func(l []api.Fact) {
		mine := copiedSchema(s)
		if e := batch.May(mine, l); e != want {
			t.Errorf("May(%v, %v) with room behind is %v, not %v", s, l, e, want)
		}
		if !sameSchema(mine, copiedSchema(s)) {
			t.Errorf("%v is changed to %v", s, mine)
		}
	})
}

// The document's examples.
func TestExamples(t *testing.T) {
	if b, e := batch.Put(nil, []api.Fact{fact("a/x", 3)}); !bytes.Equal(b, []byte{2, 2, 6, 'a', '/', 'x', 2, 6}) || e != api.OK {
		t.Errorf("Put is %v, %v", b, e)
	}
	s := sized(1, 2, 1)
	if e := batch.May(s, nil); e != api.ErrFacts {
		t.Errorf("May of no fact is %v", e)
	}
	if e := batch.May(s, []api.Fact{fact("a/x", 3)}); e != api.ErrFact {
		t.Errorf("May of a fact with one path is %v", e)
	}
	if e := batch.May(s, []api.Fact{fact("a/x b", 3)}); e != api.OK {
		t.Errorf("May of a fact with two is %v", e)
	}
}

// P9.1: May, of a schema that may not be, which is said before what is wrong with the facts.
func TestMayOfNoSchema(t *testing.T) {
	twice := cube()
	twice.Measures = []string{"sold", "sold"}
	view := cube()
	view.Views = [][]int{{2, 3}}
	for _, s := range []api.Schema{{}, twice, view, sized(0, 2, 3), sized(3, 2, 3), sized(1), sized(1, 0), sized(1, 4), sized(1, 2, 2, 2, 2)} {
		checkMay(t, s, nil, api.ErrSchema)
		checkMay(t, s, fitting(s, 1), api.ErrSchema)
		checkMay(t, s, fitting(s, mostFacts+1), api.ErrSchema)
		checkMay(t, s, fitting(cube(), 2), api.ErrSchema)
		checkMay(t, s, make([]api.Fact, 3), api.ErrSchema)
		checkMay(t, s, amiss(), api.ErrSchema)
		checkMay(t, s, amiss()[:1], api.ErrSchema)
	}
}

// P9.1: May, of each number of facts, and that ErrFacts is said before ErrFact.
func TestMayOfCounts(t *testing.T) {
	for _, s := range []api.Schema{cube(), sized(1, 1), sized(2, 3, 3, 3), sized(2, 1, 2, 3), sized(1, 3)} {
		checkMay(t, s, nil, api.ErrFacts)
		checkMay(t, s, []api.Fact{}, api.ErrFacts)
		for count := 1; count <= mostFacts; count++ {
			checkMay(t, s, fitting(s, count), api.OK)
			checkMay(t, s, slices.Repeat(fitting(s, 1), count), api.OK)
		}
		for _, count := range []int{9, 10, 16, 255, 256, 257, 264} {
			checkMay(t, s, fitting(s, count), api.ErrFacts)
			checkMay(t, s, make([]api.Fact, count), api.ErrFacts)
			checkMay(t, s, append(fitting(s, count-1), amiss()[0]), api.ErrFacts)
			checkMay(t, s, append(amiss()[:1], fitting(s, count-1)...), api.ErrFacts)
		}
		l := fitting(s, 9)
		if e := batch.May(s, l[:8]); e != api.OK {
			t.Errorf("May of 8 facts with a ninth in the room behind is %v", e)
		}
		if e := batch.May(s, l[:0]); e != api.ErrFacts {
			t.Errorf("May of no fact with facts in the room behind is %v", e)
		}
	}
}

// wrong is facts that may not be for a schema, one thing wrong in each.
func wrong(s api.Schema) []api.Fact {
	l := []api.Fact{{}}
	turned := func(turn func(*api.Fact)) {
		f := copied(fitting(s, 1))[0]
		turn(&f)
		l = append(l, f)
	}
	for i, p := range fit(s, 0).Paths {
		turned(func(f *api.Fact) { f.Paths = slices.Delete(f.Paths, i, i+1) })
		turned(func(f *api.Fact) { f.Paths = slices.Insert(f.Paths, i, p) })
		turned(func(f *api.Fact) { f.Paths[i] = p[:len(p)-1] })
		turned(func(f *api.Fact) { f.Paths[i] = nil })
		turned(func(f *api.Fact) { f.Paths[i] = append(slices.Clone(p), "a") })
		turned(func(f *api.Fact) { f.Paths[i] = slices.Repeat(p, 100) })
		for level := range p {
			for _, name := range badNames {
				turned(func(f *api.Fact) { f.Paths[i][level] = name })
			}
		}
	}
	for i := range s.Measures {
		turned(func(f *api.Fact) { f.Values = f.Values[:i] })
		for _, n := range badValues {
			turned(func(f *api.Fact) { f.Values[i] = n })
		}
	}
	for range 3 {
		turned(func(f *api.Fact) { f.Values = append(f.Values, 0) })
	}
	turned(func(f *api.Fact) { f.Values = append(f.Values, 1, 2) })
	turned(func(f *api.Fact) { f.Values = nil })
	turned(func(f *api.Fact) { f.Paths = nil })
	return append(l, amiss()...)
}

// P9.1: May, of facts with each thing wrong, alone and at each place of a list.
func TestMayOfWrongFacts(t *testing.T) {
	for _, s := range []api.Schema{cube(), sized(1, 1), sized(2, 2), sized(2, 3, 1, 2), sized(2, 3, 3, 3)} {
		for _, f := range wrong(s) {
			if fits(s, f) {
				continue // amiss for other schemas, but not for this one
			}
			checkMay(t, s, []api.Fact{f}, api.ErrFact)
			for _, count := range []int{2, mostFacts} {
				for place := range count {
					l := fitting(s, count)
					l[place] = f
					checkMay(t, s, l, api.ErrFact)
				}
			}
		}
	}
}

// P9.1: May, of facts that may be for one schema, for another.
func TestMayOfOtherSchemas(t *testing.T) {
	var l []api.Schema
	for measures := 1; measures <= mostMeasures; measures++ {
		for a := 1; a <= mostLevels; a++ {
			l = append(l, sized(measures, a))
			for b := 1; b <= mostLevels; b++ {
				l = append(l, sized(measures, a, b), sized(measures, a, b, 1), sized(measures, a, b, 3))
			}
		}
	}
	for i, s := range l {
		for j, other := range l {
			want := api.ErrFact
			if i == j {
				want = api.OK
			}
			checkMay(t, s, fitting(other, 2), want)
			checkMay(t, s, append(fitting(s, 2), fit(other, 1)), want)
		}
	}
}

// P9.1: May, of each name and each value at each place.
func TestMayOfNamesAndValues(t *testing.T) {
	s := sized(2, 3, 1, 2)
	with := func(turn func(*api.Fact)) []api.Fact {
		f := fit(s, 1)
		turn(&f)
		return []api.Fact{fit(s, 0), f, fit(s, 2)}
	}
	for place, p := range fit(s, 1).Paths {
		for level := range p {
			for _, name := range goodNames {
				checkMay(t, s, with(func(f *api.Fact) { f.Paths[place][level] = name }), api.OK)
			}
			for b := range 256 {
				name := "a" + string([]byte{byte(b)})
				want := api.ErrFact
				if isName(name) {
					want = api.OK
				}
				checkMay(t, s, with(func(f *api.Fact) { f.Paths[place][level] = name }), want)
			}
		}
	}
	for place := range s.Measures {
		for _, n := range goodValues {
			checkMay(t, s, with(func(f *api.Fact) { f.Values[place] = n }), api.OK)
		}
		for _, n := range badValues {
			checkMay(t, s, with(func(f *api.Fact) { f.Values[place] = n }), api.ErrFact)
		}
	}
	for _, n := range []int{mostValue, -mostValue} { // each may be, whatever they are together
		checkMay(t, s, slices.Repeat([]api.Fact{{Paths: fit(s, 1).Paths, Values: []int{n, n}}}, mostFacts), api.OK)
	}
}

// P9.1: Values, of no fact, of facts without values, and of several, whatever they are.
func TestValues(t *testing.T) {
	for _, l := range [][]api.Fact{nil, {}, make([]api.Fact, 0, 5)} {
		if got := batch.Values(l); len(got) != 0 {
			t.Errorf("Values of no fact is %v", got)
		}
	}
	for _, l := range slices.Concat(plains(), [][]api.Fact{amiss(), fitting(cube(), 300), make([]api.Fact, 9)}) {
		unchanged(t, l, func(mine []api.Fact) {
			var want [][]int
			for _, f := range l {
				want = append(want, f.Values)
			}
			if got := batch.Values(mine); !slices.EqualFunc(got, want, slices.Equal) {
				t.Errorf("Values(%v) is %v", l, got)
			}
		})
	}
	got := batch.Values([]api.Fact{fact("a", 3, 4), fact("b"), fact("c", -5)})
	if !slices.EqualFunc(got, [][]int{{3, 4}, nil, {-5}}, slices.Equal) {
		t.Errorf("Values is %v", got)
	}
}

// checkPut asks Put, behind no byte, behind some, and behind some that have others in the room behind them.
func checkPut(t *testing.T, l []api.Fact) {
	t.Helper()
	for _, b := range [][]byte{nil, {}, {9}, {1, 2, 3, 255, 0}, bytes.Repeat([]byte{7}, 200)} {
		want, errno := put(b, l)
		unchanged(t, l, func(l []api.Fact) {
			for _, room := range []int{0, 1, 5, 2000} {
				mine := append(append(make([]byte, 0, len(b)+room), b...), bytes.Repeat([]byte{88}, room)...)
				got, e := batch.Put(mine[:len(b)], l)
				if !bytes.Equal(got, want) || e != errno || e != api.OK && got != nil {
					t.Errorf("Put(%v, %v) is %v, %v, not %v, %v", b, l, got, e, want, errno)
				}
				for i := range got {
					got[i] ^= 255
				}
				_ = append(got, 1, 2, 3)
				if !bytes.Equal(mine[:len(b)], b) || bytes.ContainsFunc(mine[len(b):], func(c rune) bool { return c != 88 }) {
					t.Errorf("Put behind %v changed it, or the room behind it, to %v", b, mine)
				}
			}
		})
	}
}

// P9.2: Put, of facts that are plain, and of each number of them.
func TestPut(t *testing.T) {
	for _, l := range plains() {
		if _, e := put(nil, l); e != api.OK {
			t.Fatalf("the test's own word on %v is %v", l, e)
		}
		checkPut(t, l)
	}
	for _, x := range []struct {
		l    []api.Fact
		want []byte
	}{
		{nil, []byte{0}},
		{[]api.Fact{{}}, []byte{2, 0, 0}},
		{[]api.Fact{fact("*")}, []byte{2, 2, 2, '*', 0}},
		{[]api.Fact{fact("", -1)}, []byte{2, 0, 2, 1}},
		{[]api.Fact{fact("a b/c", 64, -65), fact("", 0)}, []byte{4, 4, 2, 'a', 6, 'b', '/', 'c', 4, 128, 1, 129, 1, 0, 2, 0}},
		{[]api.Fact{fact("", mostValue, -mostValue)}, []byte{2, 0, 4, 128, 128, 128, 128, 128, 128, 128, 128, 64, 255, 255, 255, 255, 255, 255, 255, 255, 63}},
	} {
		if got, e := batch.Put(nil, x.l); !bytes.Equal(got, x.want) || e != api.OK {
			t.Errorf("Put(none, %v) is %v, %v, not %v", x.l, got, e, x.want)
		}
	}
	if got, e := batch.Put(nil, greatest()); len(got) != 1+mostFacts*(1+mostDims*(1+mostText)+1+2*9) || e != api.OK {
		t.Errorf("Put of the greatest facts: %d bytes, %v", len(got), e)
	}
}

// P9.2: Put, of too many facts, which is said before what is wrong with one of them.
func TestPutOfTooMany(t *testing.T) {
	for _, count := range []int{9, 10, 16, 255, 256, 257, 264} {
		for _, l := range [][]api.Fact{make([]api.Fact, count), fitting(cube(), count), append(fitting(cube(), count-1), amiss()[0]), slices.Repeat(amiss()[:1], count)} {
			if got, e := batch.Put([]byte{1}, l); got != nil || e != api.ErrFacts {
				t.Errorf("Put of %d facts is %v, %v", count, got, e)
			}
			checkPut(t, l)
		}
	}
	l := make([]api.Fact, 9)
	if got, e := batch.Put(nil, l[:8]); len(got) != 17 || e != api.OK {
		t.Errorf("Put of 8 facts with a ninth in the room behind is %v, %v", got, e)
	}
}

// P9.2: Put, of facts that are not plain, alone and at each place of a list.
func TestPutOfAmiss(t *testing.T) {
	for _, f := range amiss() {
		checkPut(t, []api.Fact{f})
		for _, count := range []int{2, mostFacts} {
			for place := range count {
				l := fitting(cube(), count)
				l[place] = f
				if got, e := batch.Put([]byte{1, 2}, l); got != nil || e != api.ErrFact {
					t.Errorf("Put of %v at place %d of %d is %v, %v", f, place, count, got, e)
				}
			}
		}
	}
	for paths := range 6 { // of paths of 0 to 5 names, and of 0 to 4 values
		for names := range 6 {
			for values := range 5 {
				f := api.Fact{Paths: slices.Repeat([][]string{slices.Repeat([]string{longest}, names)}, paths), Values: make([]int, values)}
				want := api.ErrFact
				if paths <= 3 && (names <= 3 || paths == 0) && values <= 2 {
					want = api.OK
				}
				if _, e := batch.Put(nil, []api.Fact{f}); e != want {
					t.Errorf("Put of %d paths of %d names, %d values is %v, not %v", paths, names, values, e, want)
				}
				checkPut(t, []api.Fact{{}, f})
			}
		}
	}
}

// read is what Read is to answer of bytes, by the words of the document: the facts, the place behind it, and the error.
func read(b []byte) ([]api.Fact, int, api.Errno) {
	at, errno := 0, api.OK
	number := func(b []byte, least, most int) (int, int) {
		n, used, e := wire.GetInt(b)
		if e == api.OK && (n < least || n > most) {
			e = api.ErrBytes
		}
		if errno = e; errno != api.OK {
			return 0, 0
		}
		return n, used
	}
	next := func(least, most int) int {
		n, used := number(b[at:], least, most)
		at += used
		return n
	}
	var l []api.Fact
	for i := next(0, mostFacts); i > 0 && errno == api.OK; i-- {
		var f api.Fact
		for j := next(0, mostDims); j > 0 && errno == api.OK; j-- {
			length, used := number(b[at:], 0, mostText)
			if errno == api.OK && at+used+length > len(b) {
				errno = api.ErrShort
			}
			if errno != api.OK {
				break
			}
			p, ok := pathOf(string(b[at+used : at+used+length]))
			at += used + length
			if f.Paths = append(f.Paths, p); !ok {
				errno = api.ErrBytes
			}
		}
		if errno == api.OK {
			for j := next(0, mostMeasures); j > 0 && errno == api.OK; j-- {
				f.Values = append(f.Values, next(-mostValue, mostValue))
			}
		}
		l = append(l, f)
	}
	if errno != api.OK {
		return nil, at, errno
	}
	return l, at, api.OK
}

// checkRead holds Read of bytes, with a number ahead, against read: the facts, the place, and the error, which stays. It tells the error.
func checkRead(t *testing.T, b []byte) api.Errno {
	t.Helper()
	all := append([]byte{3}, b...)
	before := bytes.Clone(all)
	r := wire.New(all)
	r.Int(-2, -2)
	want, at, errno := read(b)
	got := batch.Read(r)
	if !same(got, want) || r.At() != at+1 || r.Failed() != (errno != api.OK) {
		t.Fatalf("Read of %v is %v, at %d, %v, not %v, at %d, %v", b, got, r.At()-1, r.End(), want, at, errno)
	}
	if errno != api.OK && (got != nil || r.End() != errno) {
		t.Fatalf("Read of %v is %v, %v, not %v", b, got, r.End(), errno)
	}
	if errno == api.OK && (r.End() == api.OK) != (at == len(b)) {
		t.Fatalf("Read of %v, to %d: %v", b, at, r.End())
	}
	if !bytes.Equal(all, before) {
		t.Fatalf("Read changed %v to %v", before, all)
	}
	if errno == api.OK {
		if again, e := batch.Put(nil, got); !bytes.Equal(again, b[:at]) || e != api.OK {
			t.Fatalf("what is read of %v is put as %v, %v", b, again, e)
		}
	}
	return errno
}

// P9.3 and P9.4: what was put is read, with bytes ahead and behind, which stay to be read.
func TestReadOfPut(t *testing.T) {
	for _, l := range plains() {
		for _, ahead := range []int{0, 1, -65} {
			for _, behind := range [][]byte{nil, {0}, {255}, {2, 0, 2, 'a'}, {128}, bytes.Repeat([]byte{2}, 50)} {
				start := wire.PutInt(nil, ahead)
				whole, e := batch.Put(start, l)
				if e != api.OK {
					t.Fatalf("Put of %v is %v", l, e)
				}
				r := wire.New(append(bytes.Clone(whole), behind...))
				r.Int(ahead, ahead)
				got := batch.Read(r)
				if !same(got, l) || r.Failed() || r.At() != len(whole) {
					t.Fatalf("Read of %v is %v, at %d, %v, not %v", whole, got, r.At(), r.End(), l)
				}
				if (r.End() == api.OK) != (len(behind) == 0) {
					t.Errorf("%v behind it: %v", behind, r.End())
				}
			}
		}
	}
}

// P9.3: two, one behind the other, and what stands behind them.
func TestReadOfTwo(t *testing.T) {
	first, second := fitting(cube(), 3), fitting(sized(2, 3, 1), 2)
	b, _ := batch.Put(nil, first)
	b, _ = batch.Put(b, nil)
	b, _ = batch.Put(b, second)
	r := wire.New(wire.PutText(b, "ab"))
	if l := batch.Read(r); !same(l, first) {
		t.Errorf("the first one is %v", l)
	}
	if l := batch.Read(r); len(l) != 0 || r.Failed() {
		t.Errorf("the one of no fact is %v, %v", l, r.End())
	}
	if l := batch.Read(r); !same(l, second) {
		t.Errorf("the last one is %v", l)
	}
	if s := r.Text(2); s != "ab" || r.End() != api.OK {
		t.Errorf("behind them is %q, %v", s, r.End())
	}
}

// P9.3: no reader, one that has an error already, and one that is at its end.
func TestReadOfNoReader(t *testing.T) {
	if l := batch.Read(nil); l != nil {
		t.Errorf("Read(nil) is %v", l)
	}
	whole, _ := batch.Put(nil, fitting(cube(), 2))
	for _, errno := range []api.Errno{api.ErrBytes, api.ErrShort} {
		r := wire.New(whole)
		if errno == api.ErrShort {
			r = wire.New(append([]byte{40}, 'a'))
			r.Text(20)
		} else {
			r.Bad()
		}
		if l := batch.Read(r); l != nil || r.At() != 0 || r.End() != errno {
			t.Errorf("Read of one with the error %v is %v, at %d, %v", errno, l, r.At(), r.End())
		}
	}
	r := wire.New(append([]byte{128, 0}, whole...))
	r.Int(0, 9)
	if l := batch.Read(r); l != nil || r.At() != 0 || r.End() != api.ErrBytes {
		t.Errorf("Read behind no number is %v, at %d, %v", l, r.At(), r.End())
	}
	r = wire.New(whole)
	if batch.Read(r); r.End() != api.OK {
		t.Errorf("Read of all is %v", r.End())
	}
	if l := batch.Read(r); l != nil || r.At() != len(whole) || r.End() != api.ErrShort {
		t.Errorf("Read at the end is %v, at %d, %v", l, r.At(), r.End())
	}
	if l := batch.Read(r); l != nil || r.At() != len(whole) || r.End() != api.ErrShort {
		t.Errorf("Read again is %v, at %d, %v", l, r.At(), r.End())
	}
}

// row is bytes: numbers as numbers, texts as texts.
func row(l ...any) []byte {
	var b []byte
	for _, x := range l {
		switch y := x.(type) {
		case int:
			b = binary.AppendVarint(b, int64(y))
		case string:
			b = putText(b, y)
		}
	}
	return b
}

// P9.3: each refusal by hand: the place and the error.
func TestReadOfOthers(t *testing.T) {
	most := strings.Join(slices.Repeat([]string{longest}, 3), "/")
	for _, x := range []struct {
		about string
		b     []byte
		at    int
		errno api.Errno
	}{
		{"no byte", nil, 0, api.ErrShort},
		{"no fact", row(0), 1, api.OK},
		{"as many facts as may be", row(8, 0, 0, 0, 0, 0, 0, 0, 0, 0, 0, 0, 0, 0, 0, 0, 0), 17, api.OK},
		{"a fact too many", append(row(9), make([]byte, 18)...), 0, api.ErrBytes},
		{"-1 facts", row(-1, 0, 0), 0, api.ErrBytes},
		{"the greatest int of facts", row(math.MaxInt, 0, 0), 0, api.ErrBytes},
		{"the least int of facts", row(math.MinInt, 0, 0), 0, api.ErrBytes},
		{"256 facts", row(256, 0, 0), 0, api.ErrBytes},
		{"no number of facts", []byte{130, 0, 0, 0}, 0, api.ErrBytes},
		{"half a number of facts", []byte{130}, 0, api.ErrShort},
		{"no number of paths", row(1), 1, api.ErrShort},
		{"as many paths as may be", row(1, 3, "a", "*", "a/b", 0), 11, api.OK},
		{"a path too many", row(1, 4, "a", "a", "a", "a", 0), 1, api.ErrBytes},
		{"-1 paths", row(1, -1, 0), 1, api.ErrBytes},
		{"the greatest int of paths", row(1, math.MaxInt, "a"), 1, api.ErrBytes},
		{"the least int of paths", row(1, math.MinInt, "a"), 1, api.ErrBytes},
		{"a path too few", row(1, 2, "a"), 4, api.ErrShort},
		{"no values", row(1, 1, "a", 0), 5, api.OK},
		{"no number of values", row(1, 1, "a"), 4, api.ErrShort},
		{"as many values as may be", row(1, 1, "a", 2, 1, -1), 7, api.OK},
		{"a value too many", row(1, 1, "a", 3, 1, 1, 1), 4, api.ErrBytes},
		{"-1 values", row(1, 1, "a", -1, 1), 4, api.ErrBytes},
		{"the greatest int of values", row(1, 1, "a", math.MaxInt, 1), 4, api.ErrBytes},
		{"the least int of values", row(1, 1, "a", math.MinInt, 1), 4, api.ErrBytes},
		{"a value too few", row(1, 0, 2, 1), 4, api.ErrShort},
		{"the greatest value", row(1, 0, 1, mostValue), 12, api.OK},
		{"the least value", row(1, 0, 1, -mostValue), 12, api.OK},
		{"one beyond the greatest value", row(1, 0, 1, mostValue+1), 3, api.ErrBytes},
		{"one beyond the least value", row(1, 0, 1, -mostValue-1), 3, api.ErrBytes},
		{"the greatest int as a value", row(1, 0, 1, math.MaxInt), 3, api.ErrBytes},
		{"the least int as a value", row(1, 0, 1, math.MinInt), 3, api.ErrBytes},
		{"a second value that is too great", row(1, 0, 2, 1, mostValue+1), 4, api.ErrBytes},
		{"a text of 38 bytes", row(1, 1, most, 0), 42, api.OK},
		{"a text of 39 bytes", row(1, 1, most+"a", 0), 2, api.ErrBytes},
		{"a text of 39 bytes that are not there", row(1, 1, 39), 2, api.ErrBytes},
		{"a text of 38 bytes that are not there", append(row(1, 1, 38), "abc"...), 2, api.ErrShort},
		{"a text of -1 bytes", append(row(1, 1, -1), "abc"...), 2, api.ErrBytes},
		{"a text of the greatest int of bytes", append(row(1, 1, math.MaxInt), "abc"...), 2, api.ErrBytes},
		{"a text of the least int of bytes", append(row(1, 1, math.MinInt), "abc"...), 2, api.ErrBytes},
		{"a text of no byte", row(1, 1, "", 0), 3, api.ErrBytes},
		{"a text of four names", row(1, 1, "a/b/c/d", 0), 10, api.ErrBytes},
		{"a text with a great letter", row(1, 1, "A", 0), 4, api.ErrBytes},
		{"a second text that is no path's", row(1, 2, "a", "a/", 0), 7, api.ErrBytes},
		{"a text of no path in the second fact", row(2, 1, "a", 0, 1, "b/", 0), 9, api.ErrBytes},
		{"a value too great in the second fact", row(2, 0, 0, 0, 1, 1<<62), 5, api.ErrBytes},
		{"a fact too few", row(2, 1, "a", 0), 5, api.ErrShort},
		{"no number as a value", append(row(1, 0, 1), 130, 0), 3, api.ErrBytes},
		{"bytes behind", row(1, 0, 0, 255), 3, api.OK},
	} {
		r := wire.New(x.b)
		l := batch.Read(r)
		if (len(l) > 0) != (x.errno == api.OK && x.at > 1) || r.At() != x.at || r.Failed() != (x.errno != api.OK) || r.Failed() && r.End() != x.errno {
			t.Errorf("%s: %v, at %d, %v, not at %d, %v", x.about, l, r.At(), r.End(), x.at, x.errno)
		}
		if e := checkRead(t, x.b); e != x.errno {
			t.Errorf("%s: the test's own word is %v", x.about, e)
		}
	}
	for _, s := range badTexts {
		for _, b := range [][]byte{row(1, 1, s, 0), row(1, 3, "a", "b", s, 1, 5), row(2, 0, 0, 1, s, 0), row(1, 1, s)} {
			if e := checkRead(t, b); e != api.ErrBytes {
				t.Errorf("%q as a path: the test's own word is %v", s, e)
			}
		}
	}
	for _, s := range []string{"*", "a", longest, "a/b", "a/b/c", "-/_/0"} {
		if e := checkRead(t, row(1, 1, s, 1, 5)); e != api.OK {
			t.Errorf("%q as a path: the test's own word is %v", s, e)
		}
	}
}

// P9.3: bytes that are cut off at every place, or with each other byte at every place.
func TestReadOfChangedBytes(t *testing.T) {
	for _, l := range [][]api.Fact{nil, {{}}, fitting(cube(), 2), fitting(sized(2, 3, 1, 2), 3), plains()[3], {fact("a", 5), fact("*", mostValue, -mostValue)}, greatest()[:2]} {
		whole, e := batch.Put(nil, l)
		if e != api.OK {
			t.Fatalf("Put of %v is %v", l, e)
		}
		for i := range whole {
			if e := checkRead(t, whole[:i]); e != api.ErrShort {
				t.Errorf("%d bytes of %v: %v", i, whole, e)
			}
			for c := range 256 {
				changed := bytes.Clone(whole)
				changed[i] = byte(c)
				checkRead(t, changed)
			}
			checkRead(t, append(bytes.Clone(whole[:i]), whole[i+1:]...))
		}
		checkRead(t, append(whole, 0, 255))
	}
}

// P9.3: bytes without a pattern, of few numbers and letters.
func TestReadOfNoise(t *testing.T) {
	some := []byte{0, 2, 2, 4, 6, 1, 'a', 'a', '/', '*', 'A', 128, 255, 16}
	seen := map[api.Errno]int{}
	for seed := range 40000 {
		var b []byte
		for _, n := range noise(seed, 1+seed%24, len(some)) {
			b = append(b, some[n])
		}
		seen[checkRead(t, b)]++
	}
	if seen[api.OK] < 1000 || seen[api.ErrBytes] < 1000 || seen[api.ErrShort] < 1000 {
		t.Errorf("so many of each: %v", seen)
	}
}

// P9.3: Copy, of no fact and of several, whatever they are.
func TestCopy(t *testing.T) {
	for _, l := range [][]api.Fact{nil, {}, make([]api.Fact, 0, 5)} {
		if got := batch.Copy(l); len(got) != 0 {
			t.Errorf("Copy of no fact is %v", got)
		}
	}
	for _, l := range slices.Concat(plains(), [][]api.Fact{amiss(), fitting(cube(), 300), make([]api.Fact, 9)}) {
		unchanged(t, l, func(mine []api.Fact) {
			if got := batch.Copy(mine); !same(got, l) {
				t.Errorf("Copy(%v) is %v", l, got)
			}
		})
	}
}

// P9.4: a batch of a schema can be put, and is read as it was, and is a batch then too.
func TestBatchesCanBePut(t *testing.T) {
	words := []string{"a", "b", longest, "-", "0_", "", "A", tooLong, "a/b"}
	numbers := slices.Concat(goodValues, badValues)
	seen := map[api.Errno]int{}
	for seed := range 20000 {
		pick := noise(seed, 600, 1<<16)
		next := func(below int) int {
			n := pick[0] % below
			pick = pick[1:]
			return n
		}
		wrong := next(3) / 2 // mostly nothing is
		s := sized(1+next(2), 1+next(3), 1+next(3), 1+next(3))
		s.Dims, s.Views = s.Dims[:1+next(3)], nil
		var l []api.Fact
		for range 1 + next(8+wrong) {
			var f api.Fact
			for _, d := range s.Dims {
				var p []string
				for range len(d.Levels) + wrong*(next(30)/29) {
					p = append(p, words[next(5+wrong*(next(60)/59)*4)])
				}
				f.Paths = append(f.Paths, p)
			}
			for range len(s.Measures) + wrong*(next(30)/29) {
				f.Values = append(f.Values, numbers[next(len(goodValues)+wrong*(next(30)/29)*len(badValues))])
			}
			l = append(l, f)
		}
		e := batch.May(s, l)
		if e != may(s, l) {
			t.Fatalf("May(%v, %v) is %v, not %v", s, l, e, may(s, l))
		}
		seen[e]++
		b, errno := batch.Put(nil, l)
		if want, wanted := put(nil, l); !bytes.Equal(b, want) || errno != wanted {
			t.Fatalf("Put(none, %v) is %v, %v, not %v, %v", l, b, errno, want, wanted)
		}
		if e != api.OK {
			continue
		}
		r := wire.New(b)
		got := batch.Read(r)
		if errno != api.OK || !same(got, l) || r.End() != api.OK || batch.May(s, got) != api.OK {
			t.Fatalf("%v is put and read as %v, %v, %v", l, got, errno, r.End())
		}
	}
	if seen[api.OK] < 1000 || seen[api.ErrFact] < 1000 || seen[api.ErrFacts] < 100 {
		t.Errorf("so many of each: %v", seen)
	}
}

// spoil writes into all that an answer has, into the room behind too, and appends to it.
func spoil(l []api.Fact) {
	for i, f := range all(l) {
		for j, p := range all(f.Paths) {
			for k := range all(p) {
				all(p)[k] = "spoilt"
			}
			_ = append(p, "spoilt", "spoilt")
			_ = append(p[:0], "spoilt")
			all(f.Paths)[j] = []string{"spoilt"}
		}
		for j := range all(f.Values) {
			all(f.Values)[j] = -99
		}
		_ = append(f.Values, -99, -99)
		_ = append(f.Paths, []string{"spoilt"})
		all(l)[i] = fact("spoilt", -99)
	}
	_ = append(l, fact("spoilt", -99))
}

// spoilOne spoils one list of an answer, the number n of them: the values or a path of a fact; no more of it, and it tells whether there is such a one.
func spoilOne(l []api.Fact, n int) bool {
	for _, f := range l {
		if n == 0 {
			for i := range all(f.Values) {
				all(f.Values)[i] = -99
			}
			return true
		}
		n--
		for _, p := range f.Paths {
			if n == 0 {
				for i := range all(p) {
					all(p)[i] = "spoilt"
				}
				return true
			}
			n--
		}
	}
	return false
}

// others is facts without the list of the number n, which spoilOne spoils.
func others(l []api.Fact, n int) []api.Fact {
	l = copied(l)
	for i := range l {
		if n == 0 {
			l[i].Values = nil
		}
		n--
		for j := range l[i].Paths {
			if n == 0 {
				l[i].Paths[j] = nil
			}
			n--
		}
	}
	return l
}

// checkOwn holds answers of a call that is to answer the facts l in new memory each time: what is written into one changes no other one, nor another list of the same one.
func checkOwn(t *testing.T, about string, l []api.Fact, call func() []api.Fact) {
	t.Helper()
	first, second := call(), call()
	spoil(first)
	if !same(second, l) || !same(call(), l) {
		t.Errorf("%s of %v has lists that are another answer's", about, l)
	}
	for n := 0; ; n++ {
		got := call()
		if !spoilOne(got, n) {
			break
		}
		if !same(others(got, n), others(l, n)) {
			t.Errorf("%s of %v has one list at two places: %v", about, l, got)
		}
	}
	for i := range l { // what is appended to a list changes no other one
		got := call()
		_ = append(got[i].Values, -99, -99, -99)
		_ = append(got[i].Paths, []string{"spoilt"}, []string{"spoilt"})
		for _, p := range got[i].Paths {
			_ = append(p, "spoilt", "spoilt", "spoilt")
		}
		if !same(got, l) {
			t.Errorf("%s of %v has a list in the room behind another: %v", about, l, got)
		}
	}
}

// shared is facts whose lists stand in one memory: the same ones at several places, and one behind the other.
func shared() []api.Fact {
	p, v := []string{"a", "b", "c", "d"}, []int{1, 2, 3, 4}
	paths := [][]string{p[:3], p[:3], p[1:4]}
	f := api.Fact{Paths: paths, Values: v[:2]}
	return []api.Fact{f, f, {Paths: paths[:2], Values: v[2:]}, {Paths: paths[1:], Values: v[:1]}}
}

// R4: Copy answers new memory, also of facts that share theirs.
func TestCopyIsItsOwn(t *testing.T) {
	for _, l := range append(plains(), shared()) {
		unchanged(t, l, func(mine []api.Fact) {
			checkOwn(t, "Copy", l, func() []api.Fact { return batch.Copy(mine) })
		})
	}
	l := shared()
	checkOwn(t, "Copy", shared(), func() []api.Fact { return batch.Copy(l) })
	got := batch.Copy(l)
	spoil(l)
	if !same(got, shared()) {
		t.Errorf("Copy keeps what is handed in: %v", got)
	}
}

// R4: Read answers new memory.
func TestReadIsItsOwn(t *testing.T) {
	for _, l := range plains() {
		b, _ := batch.Put(nil, l)
		checkOwn(t, "Read", l, func() []api.Fact { return batch.Read(wire.New(b)) })
		two := wire.New(append(bytes.Clone(b), b...))
		first := batch.Read(two)
		spoil(first)
		if got := batch.Read(two); !same(got, l) || two.End() != api.OK {
			t.Errorf("Read of %v a second time is %v, %v", l, got, two.End())
		}
	}
}

// R4: Values answers new memory, also of facts that share theirs.
func TestValuesAreTheirOwn(t *testing.T) {
	for _, l := range append(plains(), shared()) {
		values := func() []api.Fact {
			var got []api.Fact
			for _, v := range batch.Values(l) {
				got = append(got, api.Fact{Values: v})
			}
			return got
		}
		var want []api.Fact
		for _, f := range l {
			want = append(want, api.Fact{Values: slices.Clone(f.Values)})
		}
		before := copied(l)
		checkOwn(t, "Values", want, values)
		first := batch.Values(l)
		for i := range all(first) {
			all(first)[i] = []int{-99}
		}
		if got := values(); !same(got, want) || !same(l, before) {
			t.Errorf("Values of %v is %v behind writing into an answer", before, got)
		}
	}
	l := shared()
	got := batch.Values(l)
	spoil(l)
	if !slices.EqualFunc(got, [][]int{{1, 2}, {1, 2}, {3, 4}, {1}}, slices.Equal) {
		t.Errorf("Values keeps what is handed in: %v", got)
	}
}

// R4: Put keeps nothing and answers new memory each time.
func TestPutIsItsOwn(t *testing.T) {
	for _, l := range append(plains(), shared()) {
		mine := batch.Copy(l)
		want, errno := put([]byte{5}, l)
		b := []byte{5, 6, 7}
		first, e := batch.Put(b[:1], mine)
		second, _ := batch.Put(b[:1], mine)
		clear(first)
		_ = append(first, 1, 2, 3)
		if e != errno || !bytes.Equal(second, want) || !bytes.Equal(b, []byte{5, 6, 7}) {
			t.Errorf("Put of %v behind writing into an answer is %v, %v", l, second, e)
		}
		clear(b)
		spoil(mine)
		if !bytes.Equal(second, want) {
			t.Errorf("Put of %v keeps what is handed in", l)
		}
	}
}

// R4: nil and empty lists are one.
func TestNilAndEmpty(t *testing.T) {
	for _, f := range []api.Fact{{}, {Paths: [][]string{}}, {Values: []int{}}, {Paths: [][]string{}, Values: []int{}}} {
		if b, e := batch.Put(nil, []api.Fact{f}); !bytes.Equal(b, []byte{2, 0, 0}) || e != api.OK {
			t.Errorf("Put of %v is %v, %v", f, b, e)
		}
		checkMay(t, cube(), []api.Fact{f}, api.ErrFact)
		if got := batch.Values([]api.Fact{f}); len(got) != 1 || len(got[0]) != 0 {
			t.Errorf("Values of %v is %v", f, got)
		}
	}
	for _, p := range [][]string{nil, {}} {
		f := api.Fact{Paths: [][]string{p, {"a"}}}
		if b, e := batch.Put([]byte{}, []api.Fact{f}); !bytes.Equal(b, []byte{2, 4, 2, '*', 2, 'a', 0}) || e != api.OK {
			t.Errorf("Put of %v is %v, %v", f, b, e)
		}
		if got := batch.Copy([]api.Fact{f}); !same(got, []api.Fact{f}) {
			t.Errorf("Copy of %v is %v", f, got)
		}
	}
	for _, b := range [][]byte{nil, {}} {
		if got, e := batch.Put(b, nil); !bytes.Equal(got, []byte{0}) || e != api.OK {
			t.Errorf("Put(%v, none) is %v, %v", b, got, e)
		}
	}
}

// R5: the same arguments, the same answers.
func TestToldTheSame(t *testing.T) {
	for _, l := range append(plains(), amiss()) {
		first, errno := batch.Put(nil, l)
		for range 3 {
			if got, e := batch.Put(nil, batch.Copy(l)); !bytes.Equal(got, first) || e != errno {
				t.Errorf("Put of %v is another one", l)
			}
			if batch.May(cube(), l) != batch.May(cube(), batch.Copy(l)) {
				t.Errorf("May of %v is another one", l)
			}
		}
	}
}
