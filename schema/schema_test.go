package schema_test

import (
	"math"
	"slices"
	"strings"
	"testing"

	"tesseract/api"
	"tesseract/schema"
)

const (
	mostDims     = 3
	mostLevels   = 3
	mostMeasures = 2
	mostViews    = 6
	longest      = "abcdefghij-9"  // 12 bytes
	tooLong      = "abcdefghij-98" // 13 bytes
)

// goodNames is texts that are names.
var goodNames = []string{"a", "z", "0", "9", "-", "_", "a-b_0", longest}

// badNames is texts that are no names.
var badNames = []string{"", "A", "a/b", "/", "*", "a ", " a", "é", "\x00", "\xff", "a.", "a\n", "`", "{", ":", tooLong, strings.Repeat("a", 300)}

// ends is the least and the greatest numbers, and such as are others in fewer bits.
var ends = []int{math.MinInt, math.MinInt + 1, -1 << 32, -257, -256, -2, -1, 256, 257, 1 << 31, 1 << 32, 1<<32 + 1, 1<<32 + 2, math.MaxInt - 1, math.MaxInt}

// isName tells by the words of the document whether a text is a name.
func isName(s string) bool {
	for i := range len(s) {
		if !strings.Contains("abcdefghijklmnopqrstuvwxyz0123456789-_", s[i:i+1]) {
			return false
		}
	}
	return len(s) >= 1 && len(s) <= 12
}

// areNames tells whether texts are 1 to so many names, no two the same.
func areNames(l []string, most int) bool {
	if len(l) < 1 || len(l) > most {
		return false
	}
	for i, s := range l {
		if !isName(s) || slices.Contains(l[:i], s) {
			return false
		}
	}
	return true
}

// isCorner tells by the words of the document whether levels are a corner.
func isCorner(s api.Schema, v []int) bool {
	ok := len(v) == len(s.Dims)
	for i := 0; ok && i < len(v); i++ {
		ok = 0 <= v[i] && v[i] <= len(s.Dims[i].Levels)
	}
	return ok
}

// base is the greatest level of each dimension.
func base(s api.Schema) []int {
	v := make([]int, len(s.Dims))
	for i := range v {
		v[i] = len(s.Dims[i].Levels)
	}
	return v
}

// may tells by the words of the document whether a schema may be.
func may(s api.Schema) bool {
	if len(s.Dims) < 1 || len(s.Dims) > mostDims || len(s.Views) > mostViews || !areNames(s.Measures, mostMeasures) {
		return false
	}
	for i, d := range s.Dims {
		if !isName(d.Name) || !areNames(d.Levels, mostLevels) {
			return false
		}
		for _, other := range s.Dims[:i] {
			if other.Name == d.Name {
				return false
			}
		}
	}
	for i, v := range s.Views {
		if !isCorner(s, v) || slices.Equal(v, base(s)) {
			return false
		}
		for _, w := range s.Views[:i] {
			if slices.Equal(v, w) {
				return false
			}
		}
	}
	return true
}

// cube is a schema that may be.
func cube() api.Schema {
	return api.Schema{
		Dims: []api.Dim{
			{Name: "place", Levels: []string{"land", "town"}},
			{Name: "day", Levels: []string{"year", "month", "date"}},
		},
		Measures: []string{"sold"},
		Views:    [][]int{{1, 0}, {0, 2}},
	}
}

// great is a schema that may be, with as much as may be of each, of which one name stands at several places.
func great() api.Schema {
	return api.Schema{
		Dims: []api.Dim{
			{Name: "a", Levels: []string{"a", "b", longest}},
			{Name: "b", Levels: []string{"a", "b", "c"}},
			{Name: longest, Levels: []string{"-", "_", "0"}},
		},
		Measures: []string{"a", longest},
		Views:    [][]int{{0, 0, 0}, {3, 3, 2}, {3, 2, 3}, {2, 3, 3}, {1, 2, 3}, {3, 2, 1}},
	}
}

// least is a schema that may be, with as little as may be of each.
func least() api.Schema {
	return api.Schema{Dims: []api.Dim{{Name: "a", Levels: []string{"a"}}}, Measures: []string{"a"}}
}

// sized is a schema of dimensions with so many levels each, with a measure and no views.
func sized(levels ...int) api.Schema {
	s := api.Schema{Measures: []string{"m"}}
	for i, n := range levels {
		d := api.Dim{Name: "d" + text(i)}
		for level := range n {
			d.Levels = append(d.Levels, "l"+text(level))
		}
		s.Dims = append(s.Dims, d)
	}
	return s
}

// text is a number as a text.
func text(n int) string {
	if n < 10 {
		return string(rune('0' + n))
	}
	return text(n/10) + text(n%10)
}

// roomy is a list in memory of its own, with others in the room behind it.
func roomy[T any](l []T, other T) []T {
	return append(append(make([]T, 0, len(l)+2), l...), other, other)[:len(l)]
}

// copied is a schema in memory of its own, with others in the room behind each of its lists.
func copied(s api.Schema) api.Schema {
	c := api.Schema{Measures: roomy(s.Measures, "others")}
	for _, d := range s.Dims {
		c.Dims = append(c.Dims, api.Dim{Name: d.Name, Levels: roomy(d.Levels, "others")})
	}
	for _, v := range s.Views {
		c.Views = append(c.Views, roomy(v, 77))
	}
	c.Dims = roomy(c.Dims, api.Dim{Name: "others", Levels: []string{"o"}})
	c.Views = roomy(c.Views, []int{77})
	return c
}

// all is a list with the room behind it.
func all[T any](l []T) []T { return l[:cap(l)] }

// same tells whether two schemas are the same, with what stands in the room behind their lists.
func same(s, c api.Schema) bool {
	return slices.Equal(all(s.Measures), all(c.Measures)) &&
		slices.EqualFunc(all(s.Views), all(c.Views), func(v, w []int) bool { return slices.Equal(all(v), all(w)) }) &&
		slices.EqualFunc(all(s.Dims), all(c.Dims), func(d, e api.Dim) bool {
			return d.Name == e.Name && slices.Equal(all(d.Levels), all(e.Levels))
		})
}

// unchanged calls with a schema and levels, which are to be behind the call what they were.
func unchanged(t *testing.T, s api.Schema, v []int, call func(api.Schema, []int)) {
	t.Helper()
	mine, others := copied(s), copied(s)
	w := roomy(v, 77)
	call(mine, w)
	if !same(mine, others) {
		t.Errorf("%v is changed to %v", others, mine)
	}
	if !slices.Equal(all(w), append(slices.Clone(v), 77, 77)) {
		t.Errorf("%v is changed to %v", v, all(w))
	}
}

// checkMay asks May, of a schema as it is and with room behind its lists.
func checkMay(t *testing.T, s api.Schema, want bool) {
	t.Helper()
	if may(s) != want {
		t.Fatalf("the test's own word on %v is %v", s, !want)
	}
	if schema.May(s) != want {
		t.Errorf("May(%v) is not %v", s, want)
	}
	unchanged(t, s, nil, func(s api.Schema, _ []int) {
		if schema.May(s) != want {
			t.Errorf("May(%v) with room behind is not %v", s, want)
		}
	})
}

// checkTurned asks May of a schema in which something is another.
func checkTurned(t *testing.T, s api.Schema, want bool, turn func(*api.Schema)) {
	t.Helper()
	s = copied(s)
	turn(&s)
	checkMay(t, s, want)
}

// noise is small numbers without a pattern, the same at each call.
func noise(seed, count, below int) []int {
	l := make([]int, count)
	x := uint32(seed)*2654435761 + 12345
	for i := range l {
		x = x*1664525 + 1013904223
		l[i] = int(x>>16) % below
	}
	return l
}

// lists is all lists of up to so many of some numbers.
func lists(most int, numbers ...int) [][]int {
	l := [][]int{nil}
	from := 0
	for range most {
		to := len(l)
		for _, v := range l[from:to] {
			for _, n := range numbers {
				l = append(l, append(slices.Clone(v), n))
			}
		}
		from = to
	}
	return l
}

// corners is all corners of a schema.
func corners(s api.Schema) [][]int {
	l := [][]int{nil}
	for _, d := range s.Dims {
		var longer [][]int
		for _, v := range l {
			for level := range len(d.Levels) + 1 {
				longer = append(longer, append(slices.Clone(v), level))
			}
		}
		l = longer
	}
	return l
}

// schemas is schemas that may be, and others that may not.
func schemas() []api.Schema {
	l := []api.Schema{{}, cube(), great(), least(), sized(), sized(0), sized(1), sized(3), sized(4), sized(1, 2, 3), sized(3, 3, 3), sized(3, 0, 3), sized(1, 1, 1, 1), sized(0, 0, 0, 0, 0)}
	for _, turn := range []func(*api.Schema){
		func(s *api.Schema) { s.Views = append(s.Views, []int{2, 3}) },
		func(s *api.Schema) { s.Views = append(s.Views, nil, []int{}, []int{-1, 9}, []int{1, 2, 3, 4}) },
		func(s *api.Schema) { s.Views = append(s.Views, s.Views...) },
		func(s *api.Schema) { s.Views = slices.Repeat(s.Views, 5) },
		func(s *api.Schema) { s.Measures = nil },
		func(s *api.Schema) { s.Dims = nil },
		func(s *api.Schema) { s.Dims[1].Name = "" },
	} {
		s := cube()
		turn(&s)
		l = append(l, s)
	}
	return l
}

// The document's examples.
func TestExamples(t *testing.T) {
	s := sized(2, 3)
	if v := schema.Base(s); !slices.Equal(v, []int{2, 3}) {
		t.Errorf("Base is %v", v)
	}
	if n := schema.Corners(s); n != 12 {
		t.Errorf("Corners is %d", n)
	}
	if schema.Corner(s, []int{0, 4}) {
		t.Error("Corner([0, 4])")
	}
	if !schema.Covers([]int{2, 1}, []int{1, 1}) {
		t.Error("Covers([2, 1], [1, 1])")
	}
	if schema.Covers([]int{2, 0}, []int{1, 1}) {
		t.Error("Covers([2, 0], [1, 1])")
	}
	if v := schema.Join([]int{2, 0}, []int{1, 1}); !slices.Equal(v, []int{2, 1}) {
		t.Errorf("Join is %v", v)
	}
	if n, e := schema.Number(s, schema.Base(s)); n != 0 || e != api.OK {
		t.Errorf("Number of the base is %d, %v", n, e)
	}
}

// P8.1: May, of schemas of each number of dimensions and levels.
func TestMayOfCounts(t *testing.T) {
	checkMay(t, cube(), true)
	checkMay(t, great(), true)
	checkMay(t, least(), true)
	checkMay(t, api.Schema{}, false)
	for dims := range 6 {
		for levels := range 6 {
			want := dims >= 1 && dims <= 3 && levels >= 1 && levels <= 3
			checkMay(t, sized(slices.Repeat([]int{levels}, dims)...), want)
			for place := range dims {
				l := slices.Repeat([]int{2}, dims)
				l[place] = levels
				checkMay(t, sized(l...), want)
			}
		}
	}
	for _, many := range []int{7, 8, 16, 255, 256, 257, 258} {
		checkMay(t, sized(many), false)
		checkMay(t, sized(slices.Repeat([]int{1}, many)...), false)
	}
}

// P8.1: May, of each name that is none, at each place where a name stands.
func TestMayOfNames(t *testing.T) {
	for want, l := range map[bool][]string{true: goodNames, false: badNames} {
		for _, name := range l {
			for place := range 3 {
				s := sized(3, 3, 3)
				s.Dims[place].Name = name
				checkMay(t, s, want)
				for level := range 3 {
					s := sized(3, 3, 3)
					s.Dims[place].Levels[level] = name
					checkMay(t, s, want)
				}
			}
			s := sized(1)
			s.Measures = []string{name}
			checkMay(t, s, want)
			s.Measures = []string{name, "measure"}
			checkMay(t, s, want)
			s.Measures = []string{"measure", name}
			checkMay(t, s, want)
		}
	}
	for b := range 256 {
		name := string([]byte{byte(b)})
		for _, turn := range []func(*api.Schema){
			func(s *api.Schema) { s.Dims[1].Name = "a" + name },
			func(s *api.Schema) { s.Dims[1].Levels[2] = "a" + name },
			func(s *api.Schema) { s.Measures[0] = "b" + name },
		} {
			checkTurned(t, great(), isName(name), turn)
		}
	}
}

// P8.1: May, of names that stand at two places, where they may and where they may not.
func TestMayOfNamesTwice(t *testing.T) {
	for i := range 3 {
		for j := range 3 {
			if i == j {
				continue
			}
			for dim := range 3 {
				checkTurned(t, great(), false, func(s *api.Schema) { s.Dims[dim].Levels[i] = s.Dims[dim].Levels[j] })
			}
			checkTurned(t, great(), false, func(s *api.Schema) { s.Dims[i].Name = s.Dims[j].Name })
			for level := range 3 {
				checkTurned(t, great(), true, func(s *api.Schema) {
					s.Dims[i].Levels = []string{"x", "y", "z"}
					s.Dims[j].Levels = []string{"u", "v", "w"}
					s.Dims[i].Levels[level] = s.Dims[j].Levels[i]
				})
			}
			checkTurned(t, great(), true, func(s *api.Schema) { s.Dims[i].Levels = slices.Clone(s.Dims[j].Levels) })
			checkTurned(t, great(), true, func(s *api.Schema) { s.Dims[i].Levels = []string{s.Dims[j].Name, "x", s.Dims[i].Name} })
		}
		checkTurned(t, great(), true, func(s *api.Schema) { s.Measures = []string{s.Dims[i].Name, s.Dims[i].Levels[0] + "x"} })
		checkTurned(t, great(), true, func(s *api.Schema) { s.Measures = slices.Clone(s.Dims[i].Levels[:2]) })
	}
	for _, two := range [][2]string{{"a", "aa"}, {"ab", "ba"}, {"-", "_"}, {"a-", "a"}, {longest, longest[:11]}, {"0", "00"}} {
		checkTurned(t, cube(), true, func(s *api.Schema) {
			s.Dims[0].Name, s.Dims[1].Name = two[0], two[1]
			s.Dims[0].Levels, s.Measures = two[:], two[:]
		})
	}
}

// P8.1: May, of each number of measures.
func TestMayOfMeasures(t *testing.T) {
	for _, l := range []struct {
		measures []string
		want     bool
	}{
		{nil, false},
		{[]string{}, false},
		{[]string{"a"}, true},
		{[]string{longest}, true},
		{[]string{"a", "b"}, true},
		{[]string{"b", "a"}, true},
		{[]string{"a", "a"}, false},
		{[]string{longest, longest}, false},
		{[]string{"a", "b", "c"}, false},
		{[]string{"a", "b", "a"}, false},
		{[]string{"a", "a", "a"}, false},
		{slices.Repeat([]string{"a"}, 257), false},
		{slices.Repeat([]string{"a"}, 300), false},
	} {
		for _, s := range []api.Schema{cube(), great(), least()} {
			checkTurned(t, s, l.want, func(s *api.Schema) { s.Measures = l.measures })
		}
	}
}

// P8.1: May, of each number of views, and of the same one at two places.
func TestMayOfViews(t *testing.T) {
	s := sized(3, 3, 3)
	views := corners(s)
	slices.Reverse(views) // the base is the first one
	for count := range len(views) {
		s.Views = views[1 : count+1]
		checkMay(t, s, count <= mostViews)
	}
	for count := 1; count <= mostViews+1; count++ {
		for place := range count {
			s.Views = slices.Clone(views[1 : count+1])
			s.Views[place] = views[0]
			checkMay(t, s, false)
			for other := range count {
				if other != place {
					s.Views = slices.Clone(views[1 : count+1])
					s.Views[place] = slices.Clone(s.Views[other])
					checkMay(t, s, false)
				}
			}
		}
	}
	s.Views = slices.Repeat(views[1:2], 300)
	checkMay(t, s, false)
	s.Views = make([][]int, 1)
	checkMay(t, s, false)
}

// P8.1: May, of each corner of some schemas as the only view, and of any two.
func TestMayOfEachCorner(t *testing.T) {
	for _, s := range []api.Schema{sized(1), sized(3), sized(1, 1), sized(2, 3), sized(1, 2, 3), sized(3, 1, 1)} {
		for _, v := range corners(s) {
			s.Views = [][]int{v}
			checkMay(t, s, !slices.Equal(v, base(s)))
			for _, w := range corners(s) {
				s.Views = [][]int{v, w}
				checkMay(t, s, !slices.Equal(v, base(s)) && !slices.Equal(w, base(s)) && !slices.Equal(v, w))
			}
		}
	}
}

// P8.1: May, of views that are no corners, at each place.
func TestMayOfViewsThatAreNoCorners(t *testing.T) {
	for place := range mostViews {
		for dim := range 3 {
			for _, level := range slices.Concat(ends, []int{4, 5, 6}) {
				checkTurned(t, great(), false, func(s *api.Schema) { s.Views[place][dim] = level })
			}
			for levels := 1; levels <= 3; levels++ { // of as many as there are levels, and one more
				s := sized(2, 2, 2)
				s.Dims[dim].Levels = sized(levels).Dims[0].Levels
				s.Views = [][]int{{1, 1, 1}}
				s.Views[0][dim] = levels
				checkMay(t, s, true)
				s.Views[0][dim] = levels + 1
				checkMay(t, s, false)
			}
		}
		for length := range 8 {
			if length != 3 {
				checkTurned(t, great(), false, func(s *api.Schema) { s.Views[place] = make([]int, length) })
				checkTurned(t, great(), false, func(s *api.Schema) { s.Views[place] = slices.Repeat([]int{1}, length) })
			}
		}
		checkTurned(t, great(), false, func(s *api.Schema) { s.Views[place] = nil })
		checkTurned(t, great(), false, func(s *api.Schema) { s.Views[place] = make([]int, 300) })
	}
	for dims := 1; dims <= 3; dims++ {
		s := sized(slices.Repeat([]int{2}, dims)...)
		for length := range 6 {
			s.Views = [][]int{make([]int, length)}
			checkMay(t, s, length == dims)
		}
	}
}

// P8.1: May, of many schemas of few names and numbers, against the document's words.
func TestMayOfMany(t *testing.T) {
	words := []string{"a", "b", "c", "d", "e", "", "A"}
	seen := map[bool]int{}
	for seed := range 20000 {
		pick := noise(seed, 64, 1<<16)
		next := func(below int) int {
			n := pick[0] % below
			pick = pick[1:]
			return n
		}
		wrong := 5 + next(8)/7*2 // mostly names only
		some := func(count int) []string {
			var l []string
			for range count {
				l = append(l, words[next(wrong)])
			}
			return l
		}
		var s api.Schema
		for range 1 + next(16)%3 {
			s.Dims = append(s.Dims, api.Dim{Name: some(1)[0], Levels: some(1 + next(3))})
		}
		s.Measures = some(1 + next(9)/4)
		for range next(4) {
			var v []int
			for _, d := range s.Dims {
				v = append(v, next(20*(len(d.Levels)+1)+1)/20)
			}
			s.Views = append(s.Views, v)
		}
		if schema.May(s) != may(s) {
			t.Fatalf("May(%v) is not %v", s, may(s))
		}
		seen[may(s)]++
	}
	if seen[true] < 1000 || seen[false] < 1000 {
		t.Errorf("so many may be, and may not: %v", seen)
	}
}

// P8.1: Base, Views and Corners, of schemas that may be and of others.
func TestBaseViewsCorners(t *testing.T) {
	for _, s := range schemas() {
		want := append([][]int{base(s)}, s.Views...)
		unchanged(t, s, nil, func(s api.Schema, _ []int) {
			if got := schema.Base(s); !slices.Equal(got, base(s)) {
				t.Errorf("Base(%v) is %v", s, got)
			}
			if got := schema.Views(s); !slices.EqualFunc(got, want, slices.Equal) {
				t.Errorf("Views(%v) is %v", s, got)
			}
			if got := schema.Corners(s); got != len(corners(s)) {
				t.Errorf("Corners(%v) is %d, not %d", s, got, len(corners(s)))
			}
		})
	}
	if got := schema.Views(cube()); !slices.EqualFunc(got, [][]int{{2, 3}, {1, 0}, {0, 2}}, slices.Equal) {
		t.Errorf("Views of a cube is %v", got)
	}
	if got := schema.Views(api.Schema{}); len(got) != 1 || len(got[0]) != 0 {
		t.Errorf("Views of the zero schema is %v", got)
	}
	if got := schema.Base(sized(101, 0, 5000, 7)); !slices.Equal(got, []int{101, 0, 5000, 7}) {
		t.Errorf("Base of a great one is %v", got)
	}
	many := slices.Repeat([]int{1, 2}, 3000)
	if got := schema.Base(sized(many...)); !slices.Equal(got, many) {
		t.Errorf("Base of many dimensions is %v", got)
	}
	if got := schema.Views(api.Schema{Views: make([][]int, 3000)}); len(got) != 3001 {
		t.Errorf("Views of many is %d", len(got))
	}
}

// P8.1: Corners, where it is 0, and up to there.
func TestCornersOfGreatOnes(t *testing.T) {
	for _, l := range []struct {
		levels []int
		want   int
	}{
		{nil, 1},
		{[]int{0}, 1},
		{[]int{1}, 2},
		{[]int{3}, 4},
		{[]int{3, 3, 3}, 64},
		{[]int{1, 2, 3}, 24},
		{[]int{99}, 100},
		{[]int{100}, 101},
		{[]int{101}, 0},
		{[]int{102}, 0},
		{[]int{127}, 0},
		{[]int{128}, 0},
		{[]int{256}, 0},
		{[]int{257}, 0},
		{[]int{300}, 0},
		{[]int{100, 0}, 101},
		{[]int{101, 0}, 0},
		{[]int{0, 101}, 0},
		{[]int{1, 1, 1, 1, 1, 1, 1}, 128},
		{[]int{1, 1, 1, 1, 1, 1, 1, 1}, 256},
		{[]int{1, 1, 1, 1, 1, 1, 1, 1, 1}, 0},
		{[]int{0, 0, 0, 0, 0, 0, 0, 0}, 1},
		{[]int{0, 0, 0, 0, 0, 0, 0, 0, 0}, 0},
		{[]int{100, 100, 100, 100, 100, 100, 100}, 107213535210701},
		{[]int{100, 100, 100, 100, 100, 100, 100, 100}, 10828567056280801},
		{[]int{100, 100, 100, 100, 100, 100, 100, 101}, 0},
		{[]int{101, 100, 100, 100, 100, 100, 100, 100}, 0},
		{[]int{100, 100, 100, 100, 100, 100, 100, 100, 100}, 0},
		{slices.Repeat([]int{1}, 64), 0},
		{slices.Repeat([]int{1}, 256), 0},
		{slices.Repeat([]int{0}, 300), 0},
	} {
		unchanged(t, sized(l.levels...), nil, func(s api.Schema, _ []int) {
			if got := schema.Corners(s); got != l.want {
				t.Errorf("Corners of %v is %d, not %d", l.levels, got, l.want)
			}
		})
	}
}

// checkCorner asks Corner.
func checkCorner(t *testing.T, s api.Schema, v []int) {
	t.Helper()
	unchanged(t, s, v, func(s api.Schema, v []int) {
		if got := schema.Corner(s, v); got != isCorner(s, v) {
			t.Errorf("Corner(%v, %v) is %v", base(s), v, got)
		}
	})
}

// P8.1: Corner, of each level at each place, and of all lengths.
func TestCorner(t *testing.T) {
	l := slices.Concat(schemas(), []api.Schema{sized(100), sized(101, 2), sized(slices.Repeat([]int{1}, 8)...), sized(slices.Repeat([]int{1}, 9)...)})
	for _, s := range l {
		for length := range len(s.Dims) + 4 {
			checkCorner(t, s, make([]int, length))
			checkCorner(t, s, slices.Repeat([]int{1}, length))
			checkCorner(t, s, slices.Repeat([]int{-1}, length))
		}
		for place, most := range base(s) {
			for _, level := range slices.Concat(ends, []int{0, 1, 2, 3, 4, 5, most - 1, most, most + 1, most + 2}) {
				for _, v := range [][]int{base(s), make([]int, len(s.Dims))} {
					v[place] = level
					checkCorner(t, s, v)
					checkCorner(t, s, v[:place])
					checkCorner(t, s, append(v, 0))
				}
			}
		}
		for _, v := range s.Views {
			checkCorner(t, s, v)
		}
	}
	for _, s := range []api.Schema{sized(), sized(0), sized(2), sized(2, 3), sized(1, 2, 1)} {
		count := 0
		for _, v := range lists(4, -1, 0, 1, 2, 3, 4) {
			checkCorner(t, s, v)
			if schema.Corner(s, v) {
				count++
			}
		}
		if count != schema.Corners(s) {
			t.Errorf("%v has %d corners, not %d", base(s), count, schema.Corners(s))
		}
	}
	checkCorner(t, cube(), make([]int, 300))
}

// covers tells by the words of the document whether a list covers another one.
func covers(v, w []int) bool {
	if len(v) != len(w) {
		return false
	}
	for i := range w {
		if w[i] > v[i] {
			return false
		}
	}
	return true
}

// checkPair asks Covers and Join of two lists.
func checkPair(t *testing.T, v, w []int) {
	t.Helper()
	a, b := roomy(v, 77), roomy(w, 78)
	if got := schema.Covers(a, b); got != covers(v, w) {
		t.Errorf("Covers(%v, %v) is %v", v, w, got)
	}
	got := schema.Join(a, b)
	if len(v) != len(w) {
		if got != nil {
			t.Errorf("Join(%v, %v) is %v", v, w, got)
		}
	} else {
		var want []int
		for i := range v {
			want = append(want, slices.Max([]int{v[i], w[i]}))
		}
		if !slices.Equal(got, want) {
			t.Errorf("Join(%v, %v) is %v, not %v", v, w, got, want)
		}
	}
	scribble(got)
	if !slices.Equal(all(a), append(slices.Clone(v), 77, 77)) || !slices.Equal(all(b), append(slices.Clone(w), 78, 78)) {
		t.Errorf("Covers or Join changed %v or %v to %v or %v", v, w, all(a), all(b))
	}
}

// scribble writes into a list, and behind it.
func scribble(l []int) {
	for i := range all(l) {
		all(l)[i] = 999
	}
	_ = append(l, 998)
}

// P8.2: Covers and Join, of all pairs of short lists, and of great numbers.
func TestCoversJoin(t *testing.T) {
	short := lists(3, -1, 0, 1, 2)
	for _, v := range short {
		for _, w := range short {
			checkPair(t, v, w)
		}
	}
	extreme := lists(2, math.MinInt, math.MinInt+1, -1, 0, 1, math.MaxInt-1, math.MaxInt)
	for _, v := range extreme {
		for _, w := range extreme {
			checkPair(t, v, w)
		}
	}
	for place := range 40 { // one that is greater, and one that is less, at each place of a long list
		v, w := make([]int, 40), make([]int, 40)
		v[place] = 1
		checkPair(t, v, w)
		checkPair(t, w, v)
		w[39-place] = 1
		checkPair(t, v, w)
		checkPair(t, v, w[:39])
		checkPair(t, v[:39], w)
	}
	long := noise(1, 300, 9)
	checkPair(t, long, noise(2, 300, 9))
	checkPair(t, long, long)
	checkPair(t, long, long[1:])
}

// P8.2: Covers and Join of the same list twice, and of parts of one.
func TestCoversJoinOfOneMemory(t *testing.T) {
	l := []int{1, 2, 3, 4}
	if !schema.Covers(l, l) || schema.Covers(l[:3], l[1:]) || !schema.Covers(l[1:], l[:3]) {
		t.Error("Covers of parts")
	}
	got := schema.Join(l, l)
	if !slices.Equal(got, l) {
		t.Errorf("Join of the same is %v", got)
	}
	scribble(got)
	got = schema.Join(l[:3], l[1:])
	if !slices.Equal(got, []int{2, 3, 4}) {
		t.Errorf("Join of parts is %v", got)
	}
	scribble(got)
	if !slices.Equal(l, []int{1, 2, 3, 4}) {
		t.Errorf("Join's answer is in the memory of what was handed in: %v", l)
	}
}

// P8.1 and P8.2, by R4: nil and empty lists are one.
func TestNilAndEmpty(t *testing.T) {
	for _, v := range [][]int{nil, {}} {
		for _, w := range [][]int{nil, {}} {
			if !schema.Covers(v, w) || len(schema.Join(v, w)) != 0 {
				t.Errorf("Covers or Join of %#v, %#v", v, w)
			}
		}
		if schema.Covers(v, []int{0}) || schema.Covers([]int{0}, v) || schema.Join(v, []int{0}) != nil || schema.Join([]int{0}, v) != nil {
			t.Errorf("Covers or Join of %#v and another length", v)
		}
		for _, s := range []api.Schema{{}, {Dims: []api.Dim{}, Measures: []string{}, Views: [][]int{}}} {
			if !schema.Corner(s, v) || schema.Corners(s) != 1 || len(schema.Base(s)) != 0 || schema.May(s) {
				t.Errorf("of the schema %#v", s)
			}
			if n, e := schema.Number(s, v); n != 0 || e != api.ErrSchema {
				t.Errorf("Number(%#v, %#v) is %d, %v", s, v, n, e)
			}
		}
		if schema.Corner(cube(), v) {
			t.Errorf("Corner(%#v)", v)
		}
		if n, e := schema.Number(cube(), v); n != 0 || e != api.ErrView {
			t.Errorf("Number(%#v) is %d, %v", v, n, e)
		}
		checkTurned(t, cube(), false, func(s *api.Schema) { s.Views = [][]int{v} })
		checkTurned(t, cube(), false, func(s *api.Schema) { s.Views = [][]int{nil, {}} })
	}
	for _, views := range [][][]int{nil, {}} {
		checkTurned(t, cube(), true, func(s *api.Schema) { s.Views = views })
	}
	for _, levels := range [][]string{nil, {}} {
		checkTurned(t, cube(), false, func(s *api.Schema) { s.Dims[1].Levels = levels })
	}
}

// checkNumber asks Number, against the document's words.
func checkNumber(t *testing.T, s api.Schema, v []int) {
	t.Helper()
	want, errno := 0, api.ErrView
	for i, w := range append([][]int{base(s)}, s.Views...) {
		if slices.Equal(v, w) {
			want, errno = i, api.OK
		}
	}
	if !may(s) {
		want, errno = 0, api.ErrSchema
	}
	unchanged(t, s, v, func(s api.Schema, v []int) {
		if n, e := schema.Number(s, v); n != want || e != errno {
			t.Errorf("Number(%v, %v) is %d, %v, not %d, %v", s, v, n, e, want, errno)
		}
	})
}

// P8.3: Number, of each view, of each corner, and of what is no corner; of schemas that may not be, whatever the view.
func TestNumber(t *testing.T) {
	for _, s := range schemas() {
		for _, v := range append([][]int{base(s), nil}, s.Views...) {
			checkNumber(t, s, v)
		}
		for _, v := range corners(s) {
			checkNumber(t, s, v)
		}
		for _, v := range lists(4, -1, 0, 2, 4) {
			checkNumber(t, s, v)
		}
		for place := range s.Dims {
			for _, level := range ends {
				v := base(s)
				v[place] = level
				checkNumber(t, s, v)
			}
		}
	}
	for i, v := range great().Views {
		if n, e := schema.Number(great(), v); n != i+1 || e != api.OK {
			t.Errorf("Number of view %d is %d, %v", i+1, n, e)
		}
	}
	if n, e := schema.Number(great(), []int{3, 3, 3}); n != 0 || e != api.OK {
		t.Errorf("Number of the base is %d, %v", n, e)
	}
	checkNumber(t, great(), make([]int, 300))
}

// P8.3: that a schema may not be is said ahead of the view's error, and of the number of a view that it has.
func TestNumberOfNoSchema(t *testing.T) {
	for i, turn := range []func(*api.Schema){
		func(s *api.Schema) { s.Measures = nil },
		func(s *api.Schema) { s.Dims[0].Name = "A" },
		func(s *api.Schema) { s.Dims[1].Name = s.Dims[0].Name },
		func(s *api.Schema) { s.Dims[2].Levels[1] = "" },
		func(s *api.Schema) { s.Views[5] = []int{3, 3, 3} },
		func(s *api.Schema) { s.Views[4] = []int{1, 2, 4} },
		func(s *api.Schema) { s.Views = append(s.Views, []int{0, 1, 1}) },
	} {
		s := great()
		turn(&s)
		for _, v := range [][]int{{3, 3, 3}, {0, 0, 0}, {1, 1, 1}, {9, 9, 9}, {0}, nil} {
			if n, e := schema.Number(s, v); n != 0 || e != api.ErrSchema {
				t.Errorf("%d: Number(%v) is %d, %v", i, v, n, e)
			}
		}
	}
}

// P8.4: Covers is an order of the corners, in which the base covers all, and Join is the least that covers both.
func TestOrder(t *testing.T) {
	for _, s := range []api.Schema{cube(), sized(3), sized(1, 1, 1), sized(1, 3, 2), sized(3, 3)} {
		l := corners(s)
		for _, v := range l {
			if !schema.Covers(v, v) || !schema.Covers(schema.Base(s), v) || !schema.Corner(s, v) {
				t.Errorf("%v does not cover itself, or the base does not, or it is no corner", v)
			}
			for _, w := range l {
				if schema.Covers(v, w) && schema.Covers(w, v) && !slices.Equal(v, w) {
					t.Errorf("%v and %v cover each other", v, w)
				}
				both := schema.Join(v, w)
				if !schema.Corner(s, both) || !schema.Covers(both, v) || !schema.Covers(both, w) || !slices.Equal(both, schema.Join(w, v)) {
					t.Errorf("Join(%v, %v) is %v", v, w, both)
				}
				if schema.Covers(v, w) != slices.Equal(both, v) {
					t.Errorf("%v covers %v, and is not what joins them, or the other way round", v, w)
				}
				for _, x := range l {
					if schema.Covers(v, w) && schema.Covers(w, x) && !schema.Covers(v, x) {
						t.Errorf("%v covers %v, that one %v", v, w, x)
					}
					if schema.Covers(x, v) && schema.Covers(x, w) != schema.Covers(x, both) {
						t.Errorf("%v covers %v and %v, or what joins them, %v, and not the other", x, v, w, both)
					}
				}
			}
		}
	}
}

// P8.4, beyond corners: an order of all lists of numbers of one length.
func TestOrderOfAnyNumbers(t *testing.T) {
	l := lists(2, math.MinInt, -1, 0, math.MaxInt)
	for _, v := range l {
		for _, w := range l {
			if schema.Covers(v, w) && schema.Covers(w, v) && !slices.Equal(v, w) {
				t.Errorf("%v and %v cover each other", v, w)
			}
			both := schema.Join(v, w)
			if len(v) == len(w) && (!schema.Covers(both, v) || !schema.Covers(both, w)) {
				t.Errorf("Join(%v, %v) is %v", v, w, both)
			}
			for _, x := range l {
				if schema.Covers(v, w) && schema.Covers(w, x) && !schema.Covers(v, x) {
					t.Errorf("%v covers %v, that one %v", v, w, x)
				}
				if schema.Covers(x, v) && schema.Covers(x, w) && !schema.Covers(x, both) {
					t.Errorf("%v covers %v and %v, and not %v", x, v, w, both)
				}
			}
		}
	}
}

// P8.1 and P8.2, by R4: what is written into an answer, or behind it, changes nothing that was handed in and no other answer.
func TestAnswersAreTheirOwn(t *testing.T) {
	for _, s := range schemas() {
		want := append([][]int{base(s)}, copied(s).Views...)
		unchanged(t, s, nil, func(s api.Schema, _ []int) {
			others, other := schema.Views(s), schema.Base(s)
			scribble(schema.Base(s))
			for i := range want {
				got := schema.Views(s)
				scribble(got[i])
				for j := range got {
					if j != i && !slices.Equal(got[j], want[j]) {
						t.Errorf("Views(%v): list %d shares memory with list %d", s, i, j)
					}
				}
				got = append(got, []int{998})
				for j := range all(got) {
					all(got)[j] = []int{999}
				}
			}
			if !slices.EqualFunc(others, want, slices.Equal) || !slices.Equal(other, want[0]) {
				t.Errorf("Base or Views of %v changed to %v, %v", s, other, others)
			}
			if !slices.EqualFunc(schema.Views(s), want, slices.Equal) || !slices.Equal(schema.Base(s), want[0]) {
				t.Errorf("Base or Views of %v are others when asked again", s)
			}
		})
	}
	v, w := []int{1, 0, 3}, []int{0, 2, 3}
	first, second := schema.Join(v, w), schema.Join(v, w)
	scribble(first)
	if !slices.Equal(second, []int{1, 2, 3}) || !slices.Equal(v, []int{1, 0, 3}) || !slices.Equal(w, []int{0, 2, 3}) {
		t.Errorf("what Join answered shares memory: %v, %v, %v", second, v, w)
	}
}

// P8.1, by R4: what was answered stays, whatever becomes of what was handed in.
func TestNothingIsKept(t *testing.T) {
	s := cube()
	base, views := schema.Base(s), schema.Views(s)
	s.Dims[0].Levels = nil
	s.Dims[1].Name = "A"
	scribble(s.Views[0])
	s.Views[1] = nil
	if !slices.Equal(base, []int{2, 3}) || !slices.EqualFunc(views, [][]int{{2, 3}, {1, 0}, {0, 2}}, slices.Equal) {
		t.Errorf("Base and Views changed to %v, %v", base, views)
	}
	if schema.May(s) || !schema.May(cube()) {
		t.Error("May of another schema")
	}
}

// R5: the same answers, however often they are asked for.
func TestSameAnswers(t *testing.T) {
	for _, s := range schemas() {
		n, e := schema.Number(s, []int{0, 2})
		for range 20 {
			again, errno := schema.Number(copied(s), []int{0, 2})
			if schema.May(s) != may(s) || again != n || errno != e {
				t.Errorf("May or Number of %v is another one", s)
			}
		}
	}
}
