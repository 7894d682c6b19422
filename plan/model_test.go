package plan_test

import (
	"bytes"
	"reflect"
	"slices"
	"strings"
	"testing"

	"tesseract/api"
	"tesseract/lattice"
	"tesseract/plan"
	"tesseract/query"
	"tesseract/schema"
	"tesseract/wire"
)

const (
	mostViews   = 6
	mostFilters = 3
	mostMembers = 6
	mostFacts   = 8
	mostPaths   = 40
	tooLong     = "abcdefghij-98" // 13 bytes
)

// corners is the levels of each view, the base first.
func corners(s api.Schema) [][]int {
	var base []int
	for _, d := range s.Dims {
		base = append(base, len(d.Levels))
	}
	return append([][]int{base}, s.Views...)
}

// need is the levels that a query needs.
func need(q api.Query) []int {
	levels := slices.Clone(q.Group)
	for _, f := range q.Filters {
		levels[f.Dim] = max(levels[f.Dim], f.Level)
	}
	return levels
}

// covering is what Covering is to answer of a query that may be, by the words of the document.
func covering(s api.Schema, q api.Query) []int {
	var l []int
	for view, corner := range corners(s) {
		enough := 0
		for dim, level := range need(q) {
			if corner[dim] >= level {
				enough++
			}
		}
		if enough == len(s.Dims) {
			l = append(l, view)
		}
	}
	return l
}

// cells is how many cells a view has, once facts have come.
func cells(s api.Schema, facts []api.Fact, view int) int {
	keys := map[string]int{}
	for _, f := range facts {
		key := ""
		for dim, level := range corners(s)[view] {
			key += strings.Join(f.Paths[dim][:level], "/") + "|"
		}
		keys[key]++
	}
	return len(keys)
}

// choose is what Choose is to answer of a query that may be, once facts have come.
func choose(s api.Schema, facts []api.Fact, q api.Query) int {
	views := covering(s, q)
	least := views[0]
	for _, view := range views {
		if cells(s, facts, view) < cells(s, facts, least) {
			least = view
		}
	}
	return least
}

// cube is a schema of dimensions with so many levels each, and of views.
func cube(levels []int, views ...[]int) api.Schema {
	some := []string{"a", "b", "c", "d", "e"}
	s := api.Schema{Measures: some[:1], Views: views}
	for i, n := range levels {
		s.Dims = append(s.Dims, api.Dim{Name: some[i], Levels: some[:n]})
	}
	return s
}

// cubes is schemas of each number of Dims and of Views, the views in the one order and in the other.
func cubes() []api.Schema {
	var l []api.Schema
	for i, levels := range [][]int{{1}, {2}, {3}, {2, 2}, {1, 3}, {1, 1, 1}, {2, 3, 1}, {3, 3, 3}} {
		for n := range mostViews + 1 {
			s := cube(levels, roll(10*i+n).views(levels, n)...)
			l = append(l, s)
			if len(s.Views) > 1 {
				turned := slices.Clone(s.Views)
				slices.Reverse(turned)
				l = append(l, cube(levels, turned...))
			}
		}
	}
	return l
}

// noCubes is schemas that may not be, for which queries of the Group 1, 0 might be.
func noCubes() []api.Schema {
	twice := cube([]int{2, 3})
	twice.Measures = []string{"a", "a"}
	unmeasured := cube([]int{2, 3})
	unmeasured.Measures = nil
	measures := cube([]int{2, 3})
	measures.Measures = []string{"a", "b", "c"}
	dims := cube([]int{2, 3})
	dims.Dims[1].Name = "a"
	levels := cube([]int{2, 3})
	levels.Dims[0].Levels = []string{"a", "A"}
	many := cube([]int{2, 3}, []int{0, 0}, []int{0, 1}, []int{0, 2}, []int{0, 3}, []int{1, 0}, []int{1, 1}, []int{1, 2})
	l := []api.Schema{twice, unmeasured, measures, dims, levels, many, cube([]int{4, 3}), cube([]int{2, 0})}
	for _, view := range [][]int{{2, 3}, {2}, {1, 1, 1}, {}, nil, {3, 0}, {0, 4}, {-1, 0}, {0, -1}} {
		l = append(l, cube([]int{2, 3}, view), cube([]int{2, 3}, []int{1, 1}, view))
	}
	return append(l, cube([]int{2, 3}, []int{1, 1}, []int{1, 0}, []int{1, 1}))
}

// paths is paths by their texts.
func paths(texts string) [][]string {
	var l [][]string
	for _, s := range strings.Fields(texts) {
		l = append(l, strings.Split(s, "/"))
	}
	return l
}

// filter is one of Members by their texts.
func filter(dim, level int, members string) api.Filter {
	return api.Filter{Dim: dim, Level: level, Members: paths(members)}
}

// by is a filter on a level.
func by(dim, level int) api.Filter {
	return filter(dim, level, strings.Repeat("/a", level)[1:])
}

// group is a query of a Group, and Filters.
func group(levels []int, l ...api.Filter) api.Query { return api.Query{Group: levels, Filters: l} }

// groups is all Groups that may be for a schema.
func groups(s api.Schema) [][]int {
	l := [][]int{nil}
	for _, d := range s.Dims {
		var longer [][]int
		for _, g := range l {
			for level := range len(d.Levels) + 1 {
				longer = append(longer, append(slices.Clone(g), level))
			}
		}
		l = longer
	}
	return l
}

// filters is all rows of up to so many filters on the levels of a schema.
func filters(s api.Schema, most int) [][]api.Filter {
	l := [][]api.Filter{nil}
	last := l
	for range most {
		var longer [][]api.Filter
		for _, x := range last {
			for dim, d := range s.Dims {
				for level := range len(d.Levels) {
					longer = append(longer, append(slices.Clone(x), by(dim, level+1)))
				}
			}
		}
		l, last = append(l, longer...), longer
	}
	return l
}

// queries is queries that may be for a schema: each Group, with all rows of up to so many filters.
func queries(s api.Schema, most int) []api.Query {
	var l []api.Query
	rows := filters(s, most)
	for _, g := range groups(s) {
		for _, x := range rows {
			l = append(l, group(g, x...))
		}
	}
	return l
}

// noQueries is queries that may not be for a cube of 2 and 3 levels, one thing wrong in each.
func noQueries() []api.Query {
	var l []api.Query
	for _, g := range [][]int{nil, {}, {1}, {1, 0, 0}, {-1, 0}, {0, -1}, {3, 0}, {0, 4}, {1 << 32, 0}, {0, -1 << 63}} {
		l = append(l, group(g), group(g, by(0, 1)))
	}
	for _, f := range []api.Filter{
		{}, filter(-1, 1, "a"), filter(2, 1, "a"), filter(3, 1, "a"), filter(1<<62, 1, "a"), filter(0, 0, ""), filter(0, -1, "a"), filter(0, 3, "a/b/c"), filter(1, 4, "a/b/c/d"),
		filter(0, 1, ""), filter(0, 1, "a b c d e f g"), filter(0, 1, "a/b"), filter(0, 2, "a"), filter(1, 2, "a/b a/b/c"), filter(0, 1, "A"), filter(0, 1, "a "+tooLong), filter(1, 2, "a/b a/"),
		{Level: 1, Members: [][]string{{""}}}, {Level: 1, Members: [][]string{nil}}, {Level: 1, Members: [][]string{{"a"}, {"a/b"}}},
	} {
		l = append(l, group([]int{0, 0}, f), group([]int{2, 3}, by(0, 1), f), group([]int{1, 0}, f, by(1, 3)))
	}
	return append(l, group([]int{1, 0}, slices.Repeat([]api.Filter{by(0, 1)}, mostFilters+1)...), api.Query{Group: []int{1, 0}, Filters: make([]api.Filter, 1)}, api.Query{})
}

// facts is facts of the value 1, each told by the texts of its paths.
func facts(texts ...string) []api.Fact {
	var l []api.Fact
	for _, s := range texts {
		l = append(l, api.Fact{Paths: paths(s), Values: []int{1}})
	}
	return l
}

// filled is a lattice into which facts were put, as many together as may be.
func filled(t *testing.T, s api.Schema, all []api.Fact) *lattice.Lattice {
	t.Helper()
	l, errno := lattice.New(s)
	if errno != api.OK {
		t.Fatalf("New(%v) is %v", s, errno)
	}
	add(t, l, all)
	return l
}

// add puts facts into a lattice, as many together as may be.
func add(t *testing.T, l *lattice.Lattice, all []api.Fact) {
	t.Helper()
	for batch := range slices.Chunk(all, mostFacts) {
		if errno := l.Apply(batch); errno != api.OK {
			t.Fatalf("Apply(%v) is %v", batch, errno)
		}
	}
}

// dice is numbers without a pattern, the same at each run.
type dice uint32

// roll is the dice of a seed.
func roll(seed int) *dice {
	d := dice(uint32(seed)*2654435761 + 12345)
	return &d
}

// below is a number from 0 on that is below n.
func (d *dice) below(n int) int {
	*d = *d*1664525 + 1013904223
	return int(*d>>16) % n
}

// views is so many corners that may be views, or as many as there are.
func (d *dice) views(base []int, most int) [][]int {
	l := groups(cube(base))
	l = l[:len(l)-1]
	for i := range l {
		j := i + d.below(len(l)-i)
		l[i], l[j] = l[j], l[i]
	}
	return l[:min(most, len(l))]
}

// facts is so many facts of a schema, of so many different names for each Dim.
func (d *dice) facts(s api.Schema, count int, names ...int) []api.Fact {
	var l []api.Fact
	for range count {
		f := api.Fact{Values: []int{d.below(100) - 50}}
		for i, dim := range s.Dims {
			var p []string
			for range dim.Levels {
				p = append(p, string(rune('a'+d.below(names[i]))))
			}
			f.Paths = append(f.Paths, p)
		}
		l = append(l, f)
	}
	return l
}

// deep is a value in memory of its own at every depth, with so much room behind each list, in which other values stand.
func deep(v reflect.Value, room int) reflect.Value {
	c := reflect.New(v.Type()).Elem()
	switch v.Kind() {
	case reflect.Slice:
		c = reflect.MakeSlice(v.Type(), v.Len()+room, v.Len()+room)
		for i := range c.Len() {
			if i < v.Len() {
				c.Index(i).Set(deep(v.Index(i), room))
			} else {
				c.Index(i).Set(other(v.Type().Elem()))
			}
		}
		return c.Slice(0, v.Len())
	case reflect.Struct:
		for i := range v.NumField() {
			c.Field(i).Set(deep(v.Field(i), room))
		}
		return c
	}
	return v
}

// roomy is a value in memory of its own, with room behind each list.
func roomy[T any](x T) T { return deep(reflect.ValueOf(x), 2).Interface().(T) }

// other is a value that stands in the room behind a list.
func other(kind reflect.Type) reflect.Value {
	v := reflect.New(kind).Elem()
	switch kind.Kind() {
	case reflect.Int:
		v.SetInt(1)
	case reflect.String:
		v.SetString("o")
	case reflect.Slice:
		return reflect.Append(v, other(kind.Elem()))
	}
	return v
}

// lists is all lists in a value, at every depth, each with the room behind it.
func lists(v reflect.Value) []reflect.Value {
	var l []reflect.Value
	switch v.Kind() {
	case reflect.Slice:
		v = v.Slice(0, v.Cap())
		for i := range v.Len() {
			l = append(l, lists(v.Index(i))...)
		}
		l = append(l, v)
	case reflect.Struct:
		for i := range v.NumField() {
			l = append(l, lists(v.Field(i))...)
		}
	}
	return l
}

// sameWithRoom tells whether values are the same, with what stands in the room behind each list.
func sameWithRoom(a, b any) bool {
	x, y := lists(reflect.ValueOf(a)), lists(reflect.ValueOf(b))
	return reflect.DeepEqual(a, b) && slices.EqualFunc(x, y, func(x, y reflect.Value) bool { return reflect.DeepEqual(x.Interface(), y.Interface()) })
}

// spoil writes into a list, and into the room behind it.
func spoil(l []int) {
	for i := range cap(l) {
		l[:cap(l)][i] = 99
	}
}

// checkCovering asks Covering, of a schema and a query as they are and with room behind their lists; what an answer has is written into, and appended to.
func checkCovering(t *testing.T, s api.Schema, q api.Query, want []int, errno api.Errno) {
	t.Helper()
	if e := query.May(s, q); e != errno {
		t.Errorf("May(%v, %v) is %v, not %v", s, q, e, errno)
	}
	mine, my := roomy(s), roomy(q)
	for _, x := range []struct {
		s api.Schema
		q api.Query
	}{{s, q}, {mine, my}} {
		first, e := plan.Covering(x.s, x.q)
		second, again := plan.Covering(x.s, x.q)
		for _, got := range [][]int{first, second} {
			if !slices.Equal(got, want) || e != errno || again != errno || errno != api.OK && got != nil {
				t.Errorf("Covering(%v, %v) is %v, %v, not %v, %v", s, q, got, e, want, errno)
			}
		}
		spoil(first)
		spoil(append(first, 7, 8))
		if !slices.Equal(second, want) {
			t.Errorf("Covering(%v, %v) is %v, once another answer was written into", s, q, second)
		}
		spoil(second)
	}
	if !sameWithRoom(mine, roomy(s)) || !sameWithRoom(my, roomy(q)) {
		t.Errorf("%v, %v are changed to %v, %v", s, q, mine, my)
	}
}

// checkChoose asks Choose, of a query as it is and with room behind its lists, of a lattice, of a copy of it, and of what is read of its bytes. It is as it was then.
func checkChoose(t *testing.T, l *lattice.Lattice, q api.Query, want int, errno api.Errno) {
	t.Helper()
	before, rows := l.Put(nil), allRows(l)
	my := roomy(q)
	for _, x := range []*lattice.Lattice{l, l.Copy(), lattice.Read(wire.New(before), l.Schema())} {
		for _, q := range []api.Query{q, my, q} {
			if got, e := plan.Choose(x, q); got != want || e != errno {
				t.Errorf("Choose(%v with %v, %v) is %d, %v, not %d, %v", l.Schema(), lens(l), q, got, e, want, errno)
			}
		}
	}
	if !bytes.Equal(l.Put(nil), before) || !reflect.DeepEqual(allRows(l), rows) {
		t.Errorf("%v is changed to %v", rows, allRows(l))
	}
	if !sameWithRoom(my, roomy(q)) {
		t.Errorf("%v is changed to %v", q, my)
	}
}

// lens is how many cells each view of a lattice has.
func lens(l *lattice.Lattice) []int {
	var counts []int
	for view := range schema.Views(l.Schema()) {
		n, _ := l.Len(view)
		counts = append(counts, n)
	}
	return counts
}

// allRows is all rows of all views of a lattice.
func allRows(l *lattice.Lattice) [][]api.Row {
	var all [][]api.Row
	for view := range schema.Views(l.Schema()) {
		rows, _ := l.Rows(view)
		all = append(all, rows)
	}
	return all
}
