package query_test

import (
	"math"
	"slices"
	"testing"

	"tesseract/api"
	"tesseract/query"
)

// The document's example.
func TestExampleOfPaths(t *testing.T) {
	q := group([]int{1, 0}, filter(1, 2, "a/x"))
	if !query.Passes(q, paths("b/c a/x")) || query.Passes(q, paths("b/c a/y")) {
		t.Errorf("Passes is %t, %t", query.Passes(q, paths("b/c a/x")), query.Passes(q, paths("b/c a/y")))
	}
	if got := query.Key(q, paths("b/c a/x")); !samePaths(got, paths("b *")) {
		t.Errorf("Key is %v", got)
	}
	checkPaths(t, q, paths("b/c a/x"))
	checkPaths(t, q, paths("b/c a/y"))
}

// P12.2: Passes of one Filter: a Member that is the path itself, above it, beside it, below it, and several.
func TestPassesOfOneFilter(t *testing.T) {
	for _, x := range []struct {
		path, members string
		want          bool
	}{
		{"a/x/1", "a/x/1", true},
		{"a/x/1", "a/x", true},
		{"a/x/1", "a", true},
		{"a/x/1", "*", true},
		{"a/x/1", "a/x/2", false},
		{"a/x/1", "a/y/1", false},
		{"a/x/1", "b/x/1", false},
		{"a/x/1", "a/y", false},
		{"a/x/1", "b/x", false},
		{"a/x/1", "b", false},
		{"a/x/1", "x", false},
		{"a/x/1", "1", false},
		{"a/x/1", "x/1", false},
		{"a/x", "a/x/1", false},
		{"a/x", "a/x", true},
		{"a", "a/x", false},
		{"a", "a/x/1", false},
		{"a", "a", true},
		{"a", "aa", false},
		{"aa", "a", false},
		{"a/x", "a-x", false},
		{"a/x", "ax", false},
		{"a/xx", "a/x", false},
		{"a/x", "a/xx", false},
		{"*", "*", true},
		{"*", "a", false},
		{"*", "", false},
		{"a/x/1", "", false},
		{"a/x/1", "b c d a", true},
		{"a/x/1", "a b c d", true},
		{"a/x/1", "b a c", true},
		{"a/x/1", "b c d", false},
		{"a/x/1", "b a/y a/x/2 x", false},
		{"a/x/1", "b a/y a/x/2 a/x/1 x", true},
		{"a/x/1", "a a a", true},
		{"a/x/1", "b *", true},
		{"a/x/1", "b c d e f g h i j k a", true},
		{"a/x/1", "b c d e f g h i j k", false},
	} {
		for level := range 4 { // which Level a Filter has is nothing to Passes
			for place := range 3 {
				list := paths("z z z")
				list[place] = paths(x.path)[0]
				if got := checkPaths(t, group(nil, filter(place, level, x.members)), list); got != x.want {
					t.Errorf("the test's own word on %q at place %d and the members %q is %t", x.path, place, x.members, got)
				}
			}
		}
	}
}

// P12.2: Passes of no Filter, and of several, of which each alone is not passed.
func TestPassesOfSeveral(t *testing.T) {
	list := paths("a/x b/y c/z")
	if !checkPaths(t, group(nil), list) || !checkPaths(t, group([]int{1, 2, 3}), list) || !checkPaths(t, group(nil), nil) {
		t.Error("no Filter is not passed")
	}
	good := []api.Filter{filter(0, 1, "a"), filter(1, 2, "c b/y"), filter(2, 0, "*"), filter(0, 2, "a/y a/x"), filter(2, 1, "a b c d")}
	bad := []api.Filter{filter(0, 1, "b"), filter(1, 2, "c b/x"), filter(2, 3, "c/z/a"), filter(0, 2, ""), filter(2, 1, "a b cc d"), filter(-1, 1, "a *"), filter(3, 1, "a *")}
	for n := 1; n <= len(good); n++ {
		l := good[:n]
		if !checkPaths(t, group([]int{1}, l...), list) {
			t.Errorf("%v is not passed by %v", l, list)
		}
		for _, f := range bad {
			for place := range n {
				with := slices.Clone(l)
				with[place] = f
				if checkPaths(t, group([]int{1}, with...), list) {
					t.Errorf("%v is passed by %v", with, list)
				}
			}
			for place := range n + 1 {
				if checkPaths(t, group([]int{1}, slices.Insert(slices.Clone(l), place, f)...), list) {
					t.Errorf("%v among %v is passed by %v", f, l, list)
				}
			}
		}
	}
	for _, f := range bad { // and more than may be
		if checkPaths(t, group(nil, append(slices.Repeat(good, 60), f)...), list) {
			t.Errorf("%v behind many is passed by %v", f, list)
		}
	}
	if !checkPaths(t, group(nil, slices.Repeat(good, 60)...), list) {
		t.Errorf("many are not passed by %v", list)
	}
	same := []api.Filter{filter(0, 1, "a"), filter(0, 2, "b/x")} // of one Dim, each is asked
	if checkPaths(t, group(nil, same...), paths("a/x")) || checkPaths(t, group(nil, same...), paths("b/x")) {
		t.Error("one of two Filters of a Dim is enough")
	}
}

// P12.2: Passes of a Dim that is no place of the paths, whatever the Members are.
func TestPassesOfNoPlace(t *testing.T) {
	for n := range 4 {
		list := paths("a b c")[:n]
		for _, dim := range append(slices.Clone(outer), 0, 1, 2, 3) {
			for _, members := range []string{"", "*", "a b c *"} {
				want := dim >= 0 && dim < n && members != ""
				if checkPaths(t, group([]int{1}, filter(dim, 1, members)), list) != want {
					t.Errorf("the Dim %d of %v, with the Members %q: not %t", dim, list, members, want)
				}
				if checkPaths(t, group([]int{1}, filter(dim, 1, members), filter(0, 1, "a")), list) != want {
					t.Errorf("the Dim %d of %v, with the Members %q, and a Filter behind: not %t", dim, list, members, want)
				}
			}
		}
	}
	roomful := paths("a b c")
	if query.Passes(group(nil, filter(1, 1, "b")), roomful[:1]) {
		t.Error("a path in the room behind paths is asked")
	}
	if checkPaths(t, group([]int{1}, filter(0, 1, "*")), nil) || checkPaths(t, group([]int{1}, filter(0, 0, "*")), [][]string{}) {
		t.Error("no paths pass a Filter")
	}
}

// P12.2: Passes and Key of texts that are no names, and of more of them than a path has.
func TestPathsOfAnyTexts(t *testing.T) {
	long := slices.Repeat([]string{"a"}, 300)
	list := [][]string{{"", "A", "a/b"}, long, {"*"}, {"é", "\x00", "\xff", tooLong, ""}}
	for i, p := range list {
		for n := range min(len(p), 6) + 1 {
			f := api.Filter{Dim: i, Level: 1, Members: [][]string{p[:n]}}
			if !checkPaths(t, group([]int{n, n, n, n}, f), list) {
				t.Errorf("%v does not pass %v", list, f)
			}
			f.Members[0] = append(slices.Clone(p[:n]), "none")
			if checkPaths(t, group([]int{n, 299, n, 300}, f), list) {
				t.Errorf("%v passes %v", list, f)
			}
		}
	}
	if !checkPaths(t, group([]int{0, 256, 3, 9}, api.Filter{Dim: 1, Members: [][]string{long}}), list) {
		t.Error("a long path does not pass itself")
	}
	if checkPaths(t, group(nil, api.Filter{Members: [][]string{{"a"}}}), [][]string{{"a/b"}}) || checkPaths(t, group(nil, api.Filter{Members: [][]string{{"a", "b"}}}), [][]string{{"a/b"}}) {
		t.Error("a text is asked by less than the whole of it")
	}
}

// P12.2: Key, told by hand: of no Group, of one shorter and longer than the paths, and of each level.
func TestKey(t *testing.T) {
	for _, x := range []struct {
		levels []int
		paths  string
		want   string
	}{
		{nil, "", ""},
		{nil, "a/b c", ""},
		{[]int{0}, "", "*"},
		{[]int{1, 2, 3}, "", "* * *"},
		{[]int{1}, "a/b c/d", "a"},
		{[]int{2}, "a/b c/d e/f", "a/b"},
		{[]int{1, 2}, "a/b c/d e/f", "a c/d"},
		{[]int{1, 2}, "a/b", "a *"},
		{[]int{2, 1, 3}, "a/b", "a/b * *"},
		{[]int{2, 1, 3}, "a/b c/d", "a/b c *"},
		{[]int{0, 0}, "a/b c/d", "* *"},
		{[]int{1, 1}, "a/b c/d", "a c"},
		{[]int{3, 3}, "a/b c/d/e", "a/b c/d/e"},
		{[]int{4, 300}, "a/b c/d/e", "a/b c/d/e"},
		{[]int{-1, 1}, "a/b c/d", "* c"},
		{[]int{1, -1}, "a/b c/d", "a *"},
		{[]int{-3, -300}, "a/b c/d", "* *"},
		{[]int{math.MinInt, math.MaxInt}, "a/b c/d", "* c/d"},
		{[]int{math.MaxInt, math.MinInt}, "a/b c/d", "a/b *"},
		{[]int{1, 2, 1}, "* * a", "* * a"},
		{[]int{-1, -1, -1, 2}, "a b", "* * * *"},
		{[]int{1, 1, 1, 1, 1}, "a/b a/b a/b a/b a/b a/b", "a a a a a"},
	} {
		q := group(x.levels)
		for _, q := range []api.Query{q, group(x.levels, filter(0, 3, "z")), group(x.levels, filter(-1, 2, "")), group(x.levels, filter(1, 2, "a/b"), filter(0, 1, "a"))} {
			if got := query.Key(q, paths(x.paths)); !samePaths(got, paths(x.want)) {
				t.Errorf("Key of %v by %v is %v, not %q", x.paths, q, got, x.want)
			}
			checkPaths(t, q, paths(x.paths))
		}
	}
	many := slices.Repeat([]int{1}, 300)
	if got := query.Key(group(many), paths("a/b c")); len(got) != 300 || !samePaths(got[:3], paths("a c *")) {
		t.Errorf("Key of many places is %v", got)
	}
	roomful := paths("a/b c/d")
	if got := query.Key(group([]int{1, 1}), roomful[:1]); !samePaths(got, paths("a *")) {
		t.Errorf("Key with a path in the room behind paths is %v", got)
	}
	if got := query.Key(group([]int{2}), [][]string{roomful[0][:1]}); !samePaths(got, paths("a")) {
		t.Errorf("Key with a name in the room behind a path is %v", got)
	}
}

// P12.2: queries and paths without a pattern.
func TestPathsOfMany(t *testing.T) {
	passed := map[bool]int{}
	for seed := range 6000 {
		d := roll(seed)
		q := d.loose()
		if seed%2 == 0 {
			s := shapes()[d.below(len(shapes()))]
			q = d.fit(s, d.below(mostFilters+1), 2)
		}
		var list [][]string
		for range d.below(mostDims + 2) {
			list = append(list, d.path(d.below(mostLevels+2), 2))
		}
		passed[checkPaths(t, q, list)]++
	}
	if passed[true] < 500 || passed[false] < 500 {
		t.Errorf("so many of each: %v", passed)
	}
}

// P12.5: paths cut to what a query needs pass, and have their key, alike, and so do paths with other names behind.
func TestFirstNamesAlone(t *testing.T) {
	passed := map[bool]int{}
	for seed := range 3000 {
		d := roll(seed)
		s := shapes()[d.below(len(shapes()))]
		q := d.fit(s, d.below(mostFilters+1), 2)
		corner, e := query.Need(s, q)
		if e != api.OK {
			t.Fatalf("Need of %v is %v", q, e)
		}
		var list, cut, others [][]string
		for i, dim := range s.Dims {
			p := d.path(len(dim.Levels), 2)
			list = append(list, p)
			cut = append(cut, p[:corner[i]])
			others = append(others, append(slices.Clone(p[:corner[i]]), d.path(len(dim.Levels)-corner[i], len(goodNames))...))
		}
		is := checkPaths(t, q, list)
		passed[is]++
		if checkPaths(t, q, cut) != is || checkPaths(t, q, others) != is {
			t.Errorf("%v pass %v otherwise than %v or %v", list, q, cut, others)
		}
		want := query.Key(q, list)
		if !samePaths(query.Key(q, cut), want) || !samePaths(query.Key(q, others), want) {
			t.Errorf("%v have another key by %v than %v or %v", list, q, cut, others)
		}
		if again := query.Key(q, want); !samePaths(again, want) {
			t.Errorf("the key of the key %v by %v is %v", want, q, again)
		}
	}
	if passed[true] < 500 || passed[false] < 500 {
		t.Errorf("so many of each: %v", passed)
	}
}

// P12.5: and they need as many: of one name fewer it is not told, whether they pass, or what their key is.
func TestAsManyAsNeeded(t *testing.T) {
	q := group([]int{1, 0, 3}, filter(0, 2, "a/b"), filter(1, 1, "a"))
	whole := paths("a/b a a/b/c")
	if !checkPaths(t, q, whole) {
		t.Errorf("%v do not pass %v", whole, q)
	}
	for i := range 2 {
		less := paths("a/b a a/b/c")
		less[i] = less[i][:len(less[i])-1]
		if checkPaths(t, q, less) {
			t.Errorf("%v pass %v", less, q)
		}
	}
	if got := query.Key(q, paths("a/b a a/b")); samePaths(got, query.Key(q, whole)) {
		t.Errorf("Key is %v", got)
	}
}

// R4: a key is new memory, also of paths that share theirs, and keeps nothing.
func TestKeyIsItsOwn(t *testing.T) {
	p := []string{"a", "b", "c", "d"}
	list := [][]string{p[:3], p[:3], p[1:4]}
	for _, levels := range [][]int{{3, 3, 3}, {2, 2, 2}, {1, 3, 2}, {300, 300, 300}} {
		q := group(levels)
		checkPaths(t, q, list)
		want := key(q, list)
		first, second := query.Key(q, list), query.Key(q, list)
		apart(t, "Key", []any{first, second}, q, list)
		for i := range first { // what is appended to a path changes no other one
			_ = append(first[i], "spoilt", "spoilt", "spoilt")
		}
		_ = append(first, []string{"spoilt"})
		if !samePaths(first, want) || !slices.Equal(p, []string{"a", "b", "c", "d"}) {
			t.Errorf("Key is %v, once more was appended, of %v", first, p)
		}
		spoil(first)
		if !samePaths(second, want) {
			t.Errorf("Key is %v, once another answer was written into", second)
		}
	}
	got := query.Key(group([]int{2, 2, 2}), list)
	spoil(list)
	if !samePaths(got, paths("a/b a/b b/c")) {
		t.Errorf("Key keeps what is handed in: %v", got)
	}
}

// R4: nil and empty lists are one.
func TestPathsOfNilAndEmpty(t *testing.T) {
	for _, q := range []api.Query{{}, {Group: []int{}}, {Filters: []api.Filter{}}, {Group: []int{}, Filters: []api.Filter{}}} {
		for _, list := range [][][]string{nil, {}, {nil}, {{}}, {{"a"}}} {
			if !checkPaths(t, q, list) || len(query.Key(q, list)) != 0 {
				t.Errorf("%v by %v", list, q)
			}
		}
	}
	for _, p := range [][]string{nil, {}} {
		for _, member := range [][]string{nil, {}} {
			if !checkPaths(t, group([]int{1}, api.Filter{Members: [][]string{member}}), [][]string{p}) {
				t.Errorf("%v does not stand under %v", p, member)
			}
			if checkPaths(t, group([]int{1}, api.Filter{Members: [][]string{{"a"}}}), [][]string{p}) {
				t.Errorf("%v stands under a", p)
			}
		}
		for _, members := range [][][]string{nil, {}} {
			if checkPaths(t, group([]int{1}, api.Filter{Members: members}), [][]string{p}) {
				t.Errorf("%v stands under none", p)
			}
		}
	}
}
