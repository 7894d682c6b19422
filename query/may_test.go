package query_test

import (
	"math"
	"slices"
	"strings"
	"testing"

	"tesseract/api"
	"tesseract/query"
	"tesseract/schema"
)

// outer is numbers that are no Dim, no Level and no corner's level of any schema.
var outer = []int{-1, -2, 4, 5, 255, 256, 257, -256, 1 << 32, -1 << 32, math.MaxInt, math.MinInt, math.MinInt + 1}

// The document's example.
func TestExampleOfMay(t *testing.T) {
	s, q := sized(2, 2), group([]int{1, 0}, filter(1, 2, "a/x"))
	if e := query.May(s, q); e != api.OK {
		t.Errorf("May is %v", e)
	}
	if got, e := query.Need(s, q); !slices.Equal(got, []int{1, 2}) || e != api.OK {
		t.Errorf("Need is %v, %v", got, e)
	}
	checkMay(t, s, q, api.OK)
}

// P12.1: a schema that may not be is told ahead of what is wrong with the query.
func TestMayOfNoSchema(t *testing.T) {
	for _, s := range noSchemas() {
		checkMay(t, s, api.Query{}, api.ErrSchema)
		for _, other := range append(shapes(), s) {
			var base []int
			for _, d := range other.Dims {
				base = append(base, len(d.Levels))
			}
			checkMay(t, s, group(base), api.ErrSchema)
			checkMay(t, s, group(base, filter(0, 1, "a")), api.ErrSchema)
		}
		for _, q := range amiss() {
			if e := query.May(s, q); e != api.ErrSchema {
				t.Errorf("May(%v, %v) is %v", s, q, e)
			}
			if got, e := query.Need(s, q); got != nil || e != api.ErrSchema {
				t.Errorf("Need(%v, %v) is %v, %v", s, q, got, e)
			}
		}
		checkMay(t, s, amiss()[0], api.ErrSchema)
	}
}

// P12.1: each Group that is a corner may be, with no Filter it is what the query needs; no other Group may be.
func TestMayOfGroups(t *testing.T) {
	for _, s := range shapes() {
		count := 0
		for a := -1; a <= 4; a++ {
			for b := -1; b <= 4; b++ {
				for c := -1; c <= 4; c++ {
					levels := []int{a, b, c}[:len(s.Dims)]
					want := api.ErrQuery
					if schema.Corner(s, levels) {
						want = api.OK
						count++
					}
					checkMay(t, s, group(levels), want)
				}
			}
		}
		for range mostDims - len(s.Dims) { // these numbers are none of the Group
			count /= 6
		}
		if count != schema.Corners(s) {
			t.Errorf("%d Groups may be for %v, which has %d corners", count, s, schema.Corners(s))
		}
		for n := range 6 { // too short, too long
			want := api.ErrQuery
			if n == len(s.Dims) {
				want = api.OK
			}
			checkMay(t, s, group(make([]int, n)), want)
			checkMay(t, s, group(slices.Repeat([]int{1}, n)), want)
			checkMay(t, s, group(slices.Repeat([]int{1}, n), filter(0, 1, "a")), want)
		}
		checkMay(t, s, group(make([]int, 300)), api.ErrQuery)
	}
}

// P12.1: Groups with one level amiss, at each place, with a Filter and without.
func TestMayOfLevelsAmiss(t *testing.T) {
	for _, s := range shapes() {
		for place, d := range s.Dims {
			for _, n := range append(outer, len(d.Levels)+1) {
				q := group(make([]int, len(s.Dims)))
				q.Group[place] = n
				checkMay(t, s, q, api.ErrQuery)
				q.Filters = []api.Filter{filter(place, 1, "a")}
				checkMay(t, s, q, api.ErrQuery)
			}
			for n := range len(d.Levels) + 1 {
				q := group(make([]int, len(s.Dims)))
				q.Group[place] = n
				checkMay(t, s, q, api.OK)
			}
		}
	}
}

// P12.1: of each number of Filters, all the same or one amiss.
func TestMayOfFilters(t *testing.T) {
	for _, s := range shapes() {
		base := schema.Base(s)
		good := filter(len(base)-1, 1, "a b")
		for _, n := range []int{0, 1, 2, 3, 4, 5, 8, 256, 259} {
			want := api.OK
			if n > mostFilters {
				want = api.ErrQuery
			}
			q := group(base, slices.Repeat([]api.Filter{good}, n)...)
			checkMay(t, s, q, want)
			for i := range min(n, 5) {
				one := group(base, slices.Clone(q.Filters)...)
				one.Filters[i].Level = 0
				checkMay(t, s, one, api.ErrQuery)
			}
		}
		q := group(base, slices.Repeat([]api.Filter{good}, 4)...)
		q.Filters = q.Filters[:3]
		if e := query.May(s, q); e != api.OK {
			t.Errorf("May with a fourth Filter in the room behind is %v", e)
		}
	}
}

// P12.1: Filters with each Dim, each Level and each number of Members, of names as many as the Level says, fewer and more.
func TestMayOfOneFilter(t *testing.T) {
	for _, s := range shapes() {
		for _, dim := range append(slices.Clone(outer), 0, 1, 2, 3) {
			for _, level := range append(slices.Clone(outer), 0, 1, 2, 3) {
				for length := range mostLevels + 2 {
					f := api.Filter{Dim: dim, Level: level, Members: [][]string{slices.Repeat([]string{"a"}, length)}}
					want := api.ErrQuery
					if dim >= 0 && dim < len(s.Dims) && level == length && level >= 1 && level <= len(s.Dims[dim].Levels) {
						want = api.OK
					}
					checkMay(t, s, group(schema.Base(s), f), want)
				}
			}
		}
	}
}

// P12.1: Filters with each number of Members.
func TestMayOfMembers(t *testing.T) {
	for _, s := range shapes() {
		for dim, d := range s.Dims {
			for level := 1; level <= len(d.Levels); level++ {
				for _, n := range []int{0, 1, 2, 3, 4, 5, 6, 7, 8, 12, 255, 256, 257, 262, 300} {
					want := api.OK
					if n < 1 || n > mostMembers {
						want = api.ErrQuery
					}
					f := api.Filter{Dim: dim, Level: level}
					for i := range n {
						f.Members = append(f.Members, roll(i).path(level, len(goodNames)))
					}
					checkMay(t, s, group(schema.Base(s), f), want)
					checkMay(t, s, group(schema.Base(s), filter(0, 1, "a"), f), want)
				}
			}
		}
	}
}

// P12.1: Members of fewer and of more names, and with names that are none, at each place.
func TestMayOfWrongMembers(t *testing.T) {
	s := sized(3, 2, 3)
	for dim, d := range s.Dims {
		for level := 1; level <= len(d.Levels); level++ {
			for place := range mostMembers {
				with := func(p []string) api.Query {
					f := api.Filter{Dim: dim, Level: level, Members: slices.Repeat([][]string{slices.Repeat([]string{"a"}, level)}, mostMembers)}
					f.Members[place] = p
					return group([]int{0, 0, 0}, filter(0, 1, "a"), f)
				}
				for _, n := range []int{0, 1, 2, 3, 4, 5, 256 + level} {
					want := api.ErrQuery
					if n == level {
						want = api.OK
					}
					checkMay(t, s, with(slices.Repeat([]string{"b"}, n)), want)
				}
				for at := range level {
					for _, name := range slices.Concat(goodNames, badNames) {
						p := slices.Repeat([]string{"b"}, level)
						p[at] = name
						want := api.ErrQuery
						if isName(name) {
							want = api.OK
						}
						checkMay(t, s, with(p), want)
					}
				}
			}
		}
	}
	for b := range 256 {
		name := "a" + string([]byte{byte(b)})
		want := api.ErrQuery
		if isName(name) {
			want = api.OK
		}
		checkMay(t, s, group([]int{0, 0, 0}, filter(1, 2, "a/a"), api.Filter{Dim: 0, Level: 1, Members: [][]string{{"a"}, {name}}}), want)
	}
	checkMay(t, s, group([]int{0, 0, 0}, filter(0, 1, strings.Repeat("a ", mostMembers))), api.OK) // the same one at all places
}

// P12.1: what is needed, told by hand: Filters of another Dim, of lesser, the same and greater Levels, and several of one Dim.
func TestNeed(t *testing.T) {
	s := sized(3, 3, 3)
	for _, x := range []struct {
		q    api.Query
		want []int
	}{
		{group([]int{0, 0, 0}), []int{0, 0, 0}},
		{group([]int{3, 1, 2}), []int{3, 1, 2}},
		{group([]int{2, 2, 2}, filter(0, 1, "a")), []int{2, 2, 2}},
		{group([]int{2, 2, 2}, filter(0, 2, "a/b")), []int{2, 2, 2}},
		{group([]int{2, 2, 2}, filter(0, 3, "a/b/c")), []int{3, 2, 2}},
		{group([]int{2, 2, 2}, filter(1, 1, "a")), []int{2, 2, 2}},
		{group([]int{2, 2, 2}, filter(1, 3, "a/b/c")), []int{2, 3, 2}},
		{group([]int{0, 0, 0}, filter(2, 1, "a b c")), []int{0, 0, 1}},
		{group([]int{0, 0, 0}, filter(2, 3, "a/b/c")), []int{0, 0, 3}},
		{group([]int{0, 0, 0}, filter(1, 1, "a"), filter(1, 2, "a/b")), []int{0, 2, 0}},
		{group([]int{0, 0, 0}, filter(1, 2, "a/b"), filter(1, 1, "a")), []int{0, 2, 0}},
		{group([]int{0, 0, 0}, filter(1, 1, "a"), filter(1, 3, "a/b/c"), filter(1, 2, "a/b")), []int{0, 3, 0}},
		{group([]int{0, 3, 0}, filter(1, 1, "a"), filter(1, 2, "a/b"), filter(1, 2, "b/b")), []int{0, 3, 0}},
		{group([]int{0, 1, 2}, filter(0, 1, "a"), filter(1, 2, "a/b"), filter(2, 3, "b/b/b")), []int{1, 2, 3}},
		{group([]int{1, 0, 0}, filter(2, 2, "a/a"), filter(0, 3, "a/b/c"), filter(2, 1, "b")), []int{3, 0, 2}},
	} {
		if got, e := query.Need(s, x.q); !slices.Equal(got, x.want) || e != api.OK {
			t.Errorf("Need of %v is %v, %v, not %v", x.q, got, e, x.want)
		}
		checkMay(t, s, x.q, api.OK)
	}
}

// P12.1: queries without a pattern, which may be, and what they need is a corner that covers Group.
func TestNeedOfMany(t *testing.T) {
	for seed := range 3000 {
		d := roll(seed)
		s := shapes()[d.below(len(shapes()))]
		q := d.fit(s, d.below(mostFilters+1), len(goodNames))
		checkMay(t, s, q, api.OK)
		got, _ := query.Need(s, q)
		if !schema.Corner(s, got) || !schema.Covers(got, q.Group) {
			t.Errorf("%v needs %v", q, got)
		}
		for _, f := range q.Filters {
			if got[f.Dim] < f.Level {
				t.Errorf("%v needs %v", q, got)
			}
		}
	}
}

// P12.1: queries without a pattern, mostly for no schema.
func TestMayOfLoose(t *testing.T) {
	seen := map[api.Errno]int{}
	for seed := range 1200 {
		d := roll(seed)
		q := d.loose()
		for _, s := range append(shapes(), noSchemas()[d.below(len(noSchemas()))]) {
			want := may(s, q)
			seen[want]++
			checkMay(t, s, q, want)
		}
	}
	if seen[api.OK] < 300 || seen[api.ErrQuery] < 1000 || seen[api.ErrSchema] < 1000 {
		t.Errorf("so many of each: %v", seen)
	}
}

// P12.1: a query that may be for one schema, for each other one.
func TestMayOfOtherSchemas(t *testing.T) {
	for _, s := range shapes() {
		for _, q := range fitting(s) {
			for _, other := range shapes() {
				checkMay(t, other, q, may(other, q))
			}
		}
	}
}

// P12.1: a query may be whatever the schema's Views and Measures are.
func TestMayOfViewsAndMeasures(t *testing.T) {
	s := sized(2, 3)
	for _, views := range [][][]int{nil, {{0, 0}}, {{2, 0}, {0, 3}, {1, 1}}} {
		for _, measures := range [][]string{{"a"}, {"b", "c"}} {
			s.Views, s.Measures = views, measures
			for _, q := range fitting(s) {
				checkMay(t, s, q, api.OK)
			}
		}
	}
}

// R4: what is needed is new memory each time, also of a query that shares its own.
func TestNeedIsItsOwn(t *testing.T) {
	s, q := shared()
	checkMay(t, s, q, api.OK)
	before := roomy(q)
	first, e := query.Need(s, q)
	second, _ := query.Need(s, q)
	apart(t, "Need", []any{first, second}, s, q)
	spoil(first)
	_ = append(first, 99)
	if !slices.Equal(second, []int{2, 2}) || e != api.OK || !same(q, before) {
		t.Errorf("Need is %v, %v, once another answer was written into: of %v", second, e, q)
	}
	spoil(q)
	if !slices.Equal(second, []int{2, 2}) {
		t.Errorf("Need keeps what is handed in: %v", second)
	}
}

// R4: nil and empty lists are one.
func TestMayOfNilAndEmpty(t *testing.T) {
	for _, l := range [][]api.Filter{nil, {}} {
		checkMay(t, sized(2), api.Query{Group: []int{1}, Filters: l}, api.OK)
	}
	for _, l := range [][][]string{nil, {}} {
		checkMay(t, sized(2), group([]int{1}, api.Filter{Level: 1, Members: l}), api.ErrQuery)
	}
	for _, p := range [][]string{nil, {}} {
		checkMay(t, sized(2), group([]int{1}, api.Filter{Level: 1, Members: [][]string{p}}), api.ErrQuery)
		checkMay(t, sized(2), group([]int{1}, api.Filter{Level: 0, Members: [][]string{p}}), api.ErrQuery)
	}
	for _, l := range [][]int{nil, {}} {
		checkMay(t, sized(2), api.Query{Group: l}, api.ErrQuery)
		checkMay(t, api.Schema{Dims: []api.Dim{}}, api.Query{Group: l}, api.ErrSchema)
	}
}

// R5: the same arguments, the same answers.
func TestMayToldTheSame(t *testing.T) {
	for _, s := range append(shapes()[2:5], noSchemas()[:2]...) {
		for _, q := range append(fitting(sized(2, 3)), amiss()...) {
			e := query.May(s, q)
			corner, errno := query.Need(s, q)
			for range 2 {
				got, again := query.Need(roomy(s), roomy(q))
				if query.May(roomy(s), roomy(q)) != e || !slices.Equal(got, corner) || again != errno {
					t.Errorf("May or Need of %v, %v is another one", s, q)
				}
			}
		}
	}
}
