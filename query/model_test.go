package query_test

import (
	"bytes"
	"cmp"
	"encoding/binary"
	"math"
	"reflect"
	"slices"
	"strings"
	"testing"

	"tesseract/api"
	"tesseract/query"
	"tesseract/schema"
	"tesseract/wire"
)

const (
	mostDims    = 3
	mostLevels  = 3
	mostFilters = 3
	mostMembers = 6
	mostText    = 38
	longest     = "abcdefghij-9"  // 12 bytes
	tooLong     = "abcdefghij-98" // 13 bytes
)

// goodNames is texts that are names.
var goodNames = []string{"a", "b", "0", longest, "-", "_", "a-b_0", "z", "9"}

// badNames is texts that are no names.
var badNames = []string{"", "A", "a/b", "/", "*", "a ", " a", "é", "\x00", "\xff", "a.", "`", "{", ":", tooLong, strings.Repeat("a", 300)}

// badTexts is texts of at most so many bytes as a path's text has, that are no path's.
var badTexts = []string{"", "A", "a/", "/a", "/", "a//b", "**", "*/a", "a/*", "a b", "é", "\x00", "\xff", "a/b/c/d", "a/b/c/", tooLong, "a/" + tooLong, tooLong + "/a", strings.Repeat("a", mostText), strings.Repeat("a/", mostText/2), strings.Repeat("/", mostText)}

// isName tells by the words of the document whether a text is a name.
func isName(s string) bool {
	return s != "" && len(s) <= 12 && strings.Trim(s, "abcdefghijklmnopqrstuvwxyz0123456789-_") == ""
}

// isPath tells whether names are a path.
func isPath(p []string) bool {
	return len(p) <= mostLevels && !slices.ContainsFunc(p, func(s string) bool { return !isName(s) })
}

// arePaths tells whether all of a list are paths, of so many names if that is not below 0.
func arePaths(l [][]string, length int) bool {
	for _, p := range l {
		if !isPath(p) || length >= 0 && len(p) != length {
			return false
		}
	}
	return true
}

// may is what May is to answer.
func may(s api.Schema, q api.Query) api.Errno {
	if !schema.May(s) {
		return api.ErrSchema
	}
	amiss := len(q.Group) != len(s.Dims) || len(q.Filters) > mostFilters
	for i := 0; !amiss && i < len(s.Dims); i++ {
		amiss = q.Group[i] < 0 || q.Group[i] > len(s.Dims[i].Levels)
	}
	for i := 0; !amiss && i < len(q.Filters); i++ {
		f := q.Filters[i]
		amiss = f.Dim < 0 || f.Dim >= len(s.Dims) || f.Level < 1 || f.Level > len(s.Dims[f.Dim].Levels) ||
			len(f.Members) < 1 || len(f.Members) > mostMembers || !arePaths(f.Members, f.Level)
	}
	if amiss {
		return api.ErrQuery
	}
	return api.OK
}

// need is what Need is to answer of a query that may be.
func need(q api.Query) []int {
	var corner []int
	for dim, level := range q.Group {
		levels := []int{level}
		for _, f := range q.Filters {
			if f.Dim == dim {
				levels = append(levels, f.Level)
			}
		}
		corner = append(corner, slices.Max(levels))
	}
	return corner
}

// under tells whether a path stands under another one.
func under(p, q []string) bool {
	return len(p) >= len(q) && slices.Equal(p[:len(q)], q)
}

// passes is what Passes is to answer.
func passes(q api.Query, paths [][]string) bool {
	passed := 0
	for _, f := range q.Filters {
		if f.Dim >= 0 && f.Dim < len(paths) && slices.ContainsFunc(f.Members, func(m []string) bool { return under(paths[f.Dim], m) }) {
			passed++
		}
	}
	return passed == len(q.Filters)
}

// key is what Key is to answer.
func key(q api.Query, paths [][]string) [][]string {
	var l [][]string
	for i, level := range q.Group {
		var first []string
		for n := 0; i < len(paths) && n < len(paths[i]) && n < level; n++ {
			first = append(first, paths[i][n])
		}
		l = append(l, first)
	}
	return l
}

// isPlain tells whether a query is.
func isPlain(q api.Query) bool {
	from0 := func(n, most int) bool { return n >= 0 && n <= most }
	is := from0(len(q.Group), mostDims) && from0(len(q.Filters), mostFilters)
	for _, level := range q.Group {
		is = is && from0(level, mostLevels)
	}
	for _, f := range q.Filters {
		is = is && from0(f.Dim, mostDims-1) && from0(f.Level, mostLevels) && from0(len(f.Members), mostMembers) && arePaths(f.Members, -1)
	}
	return is
}

// bytesOf is bytes, and behind them a query, plain or not. The library's numbers of changing length have wire's form when they are put.
func bytesOf(b []byte, q api.Query) []byte {
	l := []any{len(q.Group)}
	for _, level := range q.Group {
		l = append(l, level)
	}
	l = append(l, len(q.Filters))
	for _, f := range q.Filters {
		l = append(l, f.Dim, f.Level, len(f.Members))
		for _, p := range f.Members {
			l = append(l, textOf(p))
		}
	}
	return append(bytes.Clone(b), row(l...)...)
}

// row is bytes: numbers as numbers, texts as texts.
func row(l ...any) []byte {
	var b []byte
	for _, x := range l {
		switch y := x.(type) {
		case int:
			b = binary.AppendVarint(b, int64(y))
		case string:
			b = append(binary.AppendVarint(b, int64(len(y))), y...)
		}
	}
	return b
}

// textOf is a path's text.
func textOf(p []string) string {
	if len(p) == 0 {
		return "*"
	}
	return strings.Join(p, "/")
}

// pathOf is the path of a text, and whether it is one's.
func pathOf(s string) ([]string, bool) {
	if s == "*" {
		return nil, true
	}
	p := strings.Split(s, "/")
	return p, isPath(p)
}

// paths is paths by their texts.
func paths(texts string) [][]string {
	var l [][]string
	for _, s := range strings.Fields(texts) {
		p, _ := pathOf(s)
		l = append(l, p)
	}
	return l
}

// filter is one of Members by their texts.
func filter(dim, level int, members string) api.Filter {
	return api.Filter{Dim: dim, Level: level, Members: paths(members)}
}

// group is a query of a Group, and Filters.
func group(levels []int, l ...api.Filter) api.Query { return api.Query{Group: levels, Filters: l} }

// read is what Read is to answer of bytes, by the words of the document: the query, the place behind it, and the error.
func read(b []byte) (api.Query, int, api.Errno) {
	at, errno := 0, api.OK
	look := func(most int) (int, int) {
		if errno != api.OK {
			return 0, 0
		}
		n, used, e := wire.GetInt(b[at:])
		if e == api.OK && (n < 0 || n > most) {
			e = api.ErrBytes
		}
		if errno = e; e != api.OK {
			return 0, 0
		}
		return n, used
	}
	number := func(most int) int {
		n, used := look(most)
		at += used
		return n
	}
	path := func() []string {
		length, used := look(mostText)
		if errno == api.OK && at+used+length > len(b) {
			errno = api.ErrShort
		}
		if errno != api.OK {
			return nil
		}
		at += used + length
		p, is := pathOf(string(b[at-length : at]))
		if !is {
			errno = api.ErrBytes
		}
		return p
	}
	var q api.Query
	for i := number(mostDims); i > 0; i-- {
		q.Group = append(q.Group, number(mostLevels))
	}
	for i := number(mostFilters); i > 0; i-- {
		f := api.Filter{Dim: number(mostDims - 1), Level: number(mostLevels)}
		for j := number(mostMembers); j > 0; j-- {
			f.Members = append(f.Members, path())
		}
		q.Filters = append(q.Filters, f)
	}
	if errno != api.OK {
		return api.Query{}, at, errno
	}
	return q, at, api.OK
}

// sized is a schema of dimensions with so many levels each, with a view if it has room for one.
func sized(levels ...int) api.Schema {
	some := []string{"a", "b", "c", "d", "e"}
	s := api.Schema{Measures: some[:1]}
	for i, n := range levels {
		s.Dims = append(s.Dims, api.Dim{Name: some[i], Levels: some[:n]})
	}
	if len(levels) > 0 {
		s.Views = [][]int{make([]int, len(levels))}
	}
	return s
}

// shapes is schemas of each number of Dims, and of Levels.
func shapes() []api.Schema {
	return []api.Schema{sized(1), sized(2), sized(3), sized(2, 2), sized(1, 3), sized(3, 1), sized(1, 1, 1), sized(2, 3, 1), sized(1, 2, 3), sized(3, 3, 3)}
}

// noSchemas is schemas that may not be.
func noSchemas() []api.Schema {
	measures := sized(2, 3)
	measures.Measures = []string{"a", "a"}
	view := sized(2, 3)
	view.Views = [][]int{{2, 3}}
	dims := sized(2, 3)
	dims.Dims[1].Name = "a"
	levels := sized(2, 3)
	levels.Dims[0].Levels = []string{"a", "A"}
	unmeasured := sized(2, 3)
	unmeasured.Measures = nil
	return []api.Schema{{}, measures, view, dims, levels, unmeasured, sized(), sized(0), sized(4), sized(2, 2, 2, 2)}
}

// dice is numbers without a pattern, the same at each run.
type dice uint32

// roll is the dice of a seed.
func roll(seed int) *dice {
	d := dice(uint32(seed)*2654435761 + 12345)
	return &d
}

// below is a number from 0 on that is below n.
func (d *dice) below(n int) int {
	*d = *d*1664525 + 1013904223
	return int(*d>>16) % n
}

// path is a path of so many names, out of as many as that.
func (d *dice) path(length, names int) []string {
	var p []string
	for range length {
		p = append(p, goodNames[d.below(names)])
	}
	return p
}

// fit is a query that may be for a schema, with so many Filters, whose Members have so many different names.
func (d *dice) fit(s api.Schema, filters, names int) api.Query {
	var q api.Query
	for _, dim := range s.Dims {
		q.Group = append(q.Group, d.below(len(dim.Levels)+1))
	}
	for range filters {
		f := api.Filter{Dim: d.below(len(s.Dims))}
		f.Level = 1 + d.below(len(s.Dims[f.Dim].Levels))
		for range 1 + d.below(mostMembers) {
			f.Members = append(f.Members, d.path(f.Level, names))
		}
		q.Filters = append(q.Filters, f)
	}
	return q
}

// fitting is queries that may be for a schema, of each number of Filters.
func fitting(s api.Schema) []api.Query {
	var l []api.Query
	for filters := range mostFilters + 1 {
		for seed := range 3 {
			l = append(l, roll(100*filters+seed).fit(s, filters, len(goodNames)))
		}
	}
	return l
}

// loose is a query without a pattern: mostly plain, but for no schema.
func (d *dice) loose() api.Query {
	var q api.Query
	odd := func(n int) int { // rarely a number below 0, or one that is too great
		return n - d.below(60)/58 + 2*(d.below(60)/58)
	}
	for range d.below(mostDims+1) + d.below(30)/29 {
		q.Group = append(q.Group, odd(d.below(mostLevels+1)))
	}
	for range d.below(mostFilters+1) + d.below(30)/29 {
		f := api.Filter{Dim: odd(d.below(mostDims)), Level: odd(d.below(mostLevels + 1))}
		for range d.below(mostMembers+1) + d.below(60)/59 {
			p := d.path(d.below(mostLevels+1)+d.below(90)/89, len(goodNames))
			if len(p) > 0 && d.below(100) == 0 {
				p[d.below(len(p))] = badNames[d.below(len(badNames))]
			}
			f.Members = append(f.Members, p)
		}
		q.Filters = append(q.Filters, f)
	}
	return q
}

// plains is queries that are plain, of each number of what they have, whether they may be for a schema or not.
func plains() []api.Query {
	l := []api.Query{{}, {Filters: make([]api.Filter, mostFilters)}, greatest()}
	for n := range mostDims + 1 {
		for level := range mostLevels + 1 {
			l = append(l, group(slices.Repeat([]int{level}, n)))
		}
	}
	for n := range mostFilters + 1 {
		for members := range mostMembers + 1 {
			for names := range mostLevels + 1 {
				f := filter(n%mostDims, (n+members)%(mostLevels+1), "")
				for i := range members {
					f.Members = append(f.Members, roll(i).path(names, len(goodNames)))
				}
				l = append(l, group([]int{names, 3, 0}[:n], slices.Repeat([]api.Filter{f}, n)...))
			}
		}
	}
	for dim := range mostDims {
		for level := range mostLevels + 1 {
			l = append(l, group(nil, filter(dim, level, "a * b/c a/b/c")), group([]int{2}, filter(dim, level, "")))
		}
	}
	for _, s := range shapes() {
		l = append(l, fitting(s)...)
	}
	return l
}

// greatest is a query that has as much as may be.
func greatest() api.Query {
	f := api.Filter{Dim: mostDims - 1, Level: mostLevels}
	f.Members = slices.Repeat([][]string{slices.Repeat([]string{longest}, mostLevels)}, mostMembers)
	return group(slices.Repeat([]int{mostLevels}, mostDims), slices.Repeat([]api.Filter{f}, mostFilters)...)
}

// amiss is queries that are not plain, one thing wrong in each.
func amiss() []api.Query {
	var l []api.Query
	for _, n := range []int{4, 5, 8, 256, 257, 300} {
		l = append(l, group(make([]int, n)), group([]int{1}, make([]api.Filter, n)...))
		l = append(l, group([]int{1}, filter(0, 1, strings.Repeat("a ", n+3))))
		l = append(l, group([]int{1}, api.Filter{Level: 1, Members: [][]string{{"a"}, slices.Repeat([]string{"a"}, n)}}))
	}
	for _, n := range []int{-1, -2, 4, 5, 255, 256, -256, 1 << 32, -1 << 32, math.MaxInt, math.MinInt, math.MinInt + 1} {
		l = append(l, group([]int{n}), group([]int{0, 1, n}), group([]int{n, 0}))
		for i := range mostFilters {
			for _, f := range []api.Filter{filter(n, 1, "a"), filter(0, n, "a"), filter(n, 0, ""), filter(1, n, "")} {
				l = append(l, group([]int{1, 1}, slices.Insert([]api.Filter{filter(0, 1, "a"), filter(1, 1, "b")}, i, f)...))
			}
		}
	}
	l = append(l, group(nil, filter(3, 0, "")), group([]int{0, 0, 0}, filter(3, 1, "a")))
	for _, name := range badNames {
		for place := range mostMembers {
			for names := range mostLevels {
				f := filter(0, names, strings.Repeat("a ", mostMembers))
				f.Members[place] = append(slices.Repeat([]string{"b"}, names), name)
				l = append(l, group([]int{1}, f), group(nil, filter(1, 1, "a"), f))
			}
		}
	}
	return l
}

// roomy is a value in memory of its own, at every depth, with others in the room behind each list.
func roomy[T any](x T) T { return deep(reflect.ValueOf(x)).Interface().(T) }

// deep is what roomy is.
func deep(v reflect.Value) reflect.Value {
	c := reflect.New(v.Type()).Elem()
	switch v.Kind() {
	case reflect.Slice:
		c = reflect.MakeSlice(v.Type(), v.Len()+2, v.Len()+2)
		for i := range c.Len() {
			if i < v.Len() {
				c.Index(i).Set(deep(v.Index(i)))
			} else {
				c.Index(i).Set(other(v.Type().Elem()))
			}
		}
		return c.Slice(0, v.Len())
	case reflect.Struct:
		for i := range v.NumField() {
			c.Field(i).Set(deep(v.Field(i)))
		}
		return c
	}
	return v
}

// other is a value that stands in the room behind a list.
func other(kind reflect.Type) reflect.Value {
	v := reflect.New(kind).Elem()
	switch kind.Kind() {
	case reflect.Int:
		v.SetInt(1)
	case reflect.Uint8:
		v.SetUint(88)
	case reflect.String:
		v.SetString("o")
	case reflect.Slice:
		return reflect.Append(v, other(kind.Elem()))
	}
	return v
}

// lists is all lists in a value, at every depth, each with the room behind it.
func lists(v reflect.Value) []reflect.Value {
	var l []reflect.Value
	switch v.Kind() {
	case reflect.Slice:
		v = v.Slice(0, v.Cap())
		for i := range v.Len() {
			l = append(l, lists(v.Index(i))...)
		}
		l = append(l, v)
	case reflect.Struct:
		for i := range v.NumField() {
			l = append(l, lists(v.Field(i))...)
		}
	}
	return l
}

// sameWithRoom tells whether values are the same, with what stands in the room behind each list.
func sameWithRoom(a, b any) bool {
	x, y := lists(reflect.ValueOf(a)), lists(reflect.ValueOf(b))
	return reflect.DeepEqual(a, b) && slices.EqualFunc(x, y, func(x, y reflect.Value) bool { return reflect.DeepEqual(x.Interface(), y.Interface()) })
}

// same tells whether queries are the same; nil and empty lists are one.
func same(a, b api.Query) bool {
	return slices.Equal(a.Group, b.Group) && slices.EqualFunc(a.Filters, b.Filters, func(f, g api.Filter) bool {
		return f.Dim == g.Dim && f.Level == g.Level && samePaths(f.Members, g.Members)
	})
}

// samePaths tells whether paths are the same; nil and empty lists are one.
func samePaths(a, b [][]string) bool { return slices.EqualFunc(a, b, slices.Equal) }

// isZero tells whether a query is the zero one.
func isZero(q api.Query) bool { return q.Group == nil && q.Filters == nil }

// apart holds that no list of answers shares memory with another list: neither of the same answer, nor of another one, nor of what was handed in.
func apart(t *testing.T, about string, answers []any, given ...any) {
	t.Helper()
	type place struct {
		start, end uintptr
		answered   bool
	}
	var l []place
	for i, v := range append(slices.Clone(answers), given...) {
		for _, x := range lists(reflect.ValueOf(v)) {
			if x.Len() > 0 {
				l = append(l, place{x.Pointer(), x.Pointer() + uintptr(x.Len())*x.Type().Elem().Size(), i < len(answers)})
			}
		}
	}
	slices.SortFunc(l, func(x, y place) int { return cmp.Compare(x.start, y.start) })
	var taken, answered uintptr // up to where there are lists, and lists of answers
	for _, x := range l {
		if x.start < answered || x.answered && x.start < taken {
			t.Fatalf("%s: lists of %v share memory with each other, or with %v", about, answers, given)
		}
		taken = max(taken, x.end)
		if x.answered {
			answered = max(answered, x.end)
		}
	}
}

// spoil writes into each list of a value, into the room behind it too.
func spoil(v any) {
	for _, l := range lists(reflect.ValueOf(v)) {
		for i := range l.Len() {
			switch x := l.Index(i); x.Kind() {
			case reflect.Int:
				x.SetInt(99)
			case reflect.Uint8:
				x.SetUint(99)
			case reflect.String:
				x.SetString("spoilt")
			default:
				x.SetZero()
			}
		}
	}
}

// shared is a query whose lists stand in one memory: the same ones at several places, and one behind the other.
func shared() (api.Schema, api.Query) {
	p := []string{"a", "b", "c", "d"}
	members := [][]string{p[:2], p[:2], p[1:3], p[2:4]}
	n := []int{2, 2, 2, 2}
	return sized(2, 2), api.Query{Group: n[:2], Filters: []api.Filter{{Dim: 0, Level: 2, Members: members[:2]}, {Dim: 0, Level: 2, Members: members[:2]}, {Dim: 1, Level: 2, Members: members[1:]}}}
}

// checkMay asks May and Need, of a query as it is and with room behind its lists.
func checkMay(t *testing.T, s api.Schema, q api.Query, want api.Errno) {
	t.Helper()
	if e := may(s, q); e != want {
		t.Fatalf("the test's own word on %v, %v is %v", s, q, e)
	}
	var corner []int
	if want == api.OK {
		corner = need(q)
	}
	mine, my := roomy(s), roomy(q)
	for _, x := range []struct {
		s api.Schema
		q api.Query
	}{{s, q}, {mine, my}} {
		if e := query.May(x.s, x.q); e != want {
			t.Errorf("May(%v, %v) is %v, not %v", s, q, e, want)
		}
		got, e := query.Need(x.s, x.q)
		if !slices.Equal(got, corner) || e != want || e != api.OK && got != nil {
			t.Errorf("Need(%v, %v) is %v, %v, not %v, %v", s, q, got, e, corner, want)
		}
		apart(t, "Need", []any{got}, x.s, x.q)
		spoil(got)
	}
	if !sameWithRoom(mine, roomy(s)) || !sameWithRoom(my, roomy(q)) {
		t.Errorf("%v, %v are changed to %v, %v", s, q, mine, my)
	}
}

// checkPaths asks Passes and Key, of paths as they are and with room behind their lists. It tells whether they pass.
func checkPaths(t *testing.T, q api.Query, paths [][]string) bool {
	t.Helper()
	passed, wanted := passes(q, paths), key(q, paths)
	mine, my := roomy(q), roomy(paths)
	for _, x := range []struct {
		q     api.Query
		paths [][]string
	}{{q, paths}, {mine, my}} {
		if is := query.Passes(x.q, x.paths); is != passed {
			t.Errorf("Passes(%v, %v) is %t", q, paths, is)
		}
		got, again := query.Key(x.q, x.paths), query.Key(x.q, x.paths)
		if !samePaths(got, wanted) || !samePaths(again, wanted) {
			t.Errorf("Key(%v, %v) is %v, not %v", q, paths, got, wanted)
		}
		apart(t, "Key", []any{got, again}, x.q, x.paths)
		spoil(got)
		if !samePaths(again, wanted) {
			t.Errorf("Key(%v, %v) is %v, once another answer was written into", q, paths, again)
		}
	}
	if !sameWithRoom(mine, roomy(q)) || !sameWithRoom(my, roomy(paths)) {
		t.Errorf("%v, %v are changed to %v, %v", q, paths, mine, my)
	}
	return passed
}
