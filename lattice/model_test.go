package lattice_test

import (
	"bytes"
	"cmp"
	"encoding/binary"
	"math"
	"math/big"
	"reflect"
	"slices"
	"strings"
	"testing"

	"tesseract/api"
	"tesseract/lattice"
	"tesseract/wire"
)

const (
	mostPaths    = 40
	mostFacts    = 8
	mostMeasures = 2
	mostCount    = 1 << 40
	mostValue    = 1 << 61
	mostSum      = 1 << 62
	longest      = "abcdefghij-9"  // 12 bytes
	tooLong      = "abcdefghij-98" // 13 bytes
)

// part is a cell that came under its paths: a fact, or what was read.
type part struct {
	paths [][]string
	x     api.Cell
}

// model is a lattice by the words of the document: the paths of each Dim in the order in which they came, and all that came, one by one.
type model struct {
	s     api.Schema
	dicts [][][]string
	parts []part
}

// none is the model without facts.
func none(s api.Schema) model {
	return model{s: s, dicts: make([][][]string, len(s.Dims))}
}

// full is how many levels each Dim has.
func full(s api.Schema) []int {
	var levels []int
	for _, d := range s.Dims {
		levels = append(levels, len(d.Levels))
	}
	return levels
}

// corners is the levels of each view, the base first.
func corners(s api.Schema) [][]int { return append([][]int{full(s)}, s.Views...) }

// code is a path's code in a Dim's dictionary, or -1, if it is not there.
func (m model) code(dim int, p []string) int {
	if len(p) == 0 {
		return 0
	}
	at := slices.IndexFunc(m.dicts[dim], func(q []string) bool { return slices.Equal(p, q) })
	if at < 0 {
		return -1
	}
	return at + 1
}

// isName tells whether a text is a name.
func isName(s string) bool {
	return s != "" && len(s) <= 12 && strings.Trim(s, "abcdefghijklmnopqrstuvwxyz0123456789-_") == ""
}

// mayFact tells whether a fact may be.
func mayFact(s api.Schema, f api.Fact) bool {
	if len(f.Paths) != len(s.Dims) || len(f.Values) != len(s.Measures) {
		return false
	}
	for i, p := range f.Paths {
		if len(p) != len(s.Dims[i].Levels) || slices.ContainsFunc(p, func(s string) bool { return !isName(s) }) {
			return false
		}
	}
	return !slices.ContainsFunc(f.Values, func(n int) bool { return n < -mostValue || n > mostValue })
}

// with is the model with a batch more, or what Apply is to answer, and the same model.
func (m model) with(facts []api.Fact) (model, api.Errno) {
	if len(facts) < 1 || len(facts) > mostFacts {
		return m, api.ErrFacts
	}
	next := model{s: m.s, dicts: slices.Clone(m.dicts), parts: slices.Clone(m.parts)}
	for _, f := range facts {
		if !mayFact(m.s, f) {
			return m, api.ErrFact
		}
	}
	for _, f := range facts {
		for i, p := range f.Paths {
			if !next.come(i, p) {
				return m, api.ErrPaths
			}
		}
		next.parts = append(next.parts, part{deep(f.Paths), one(f.Values...)})
	}
	if !next.fits() {
		return m, api.ErrRange
	}
	return next, api.OK
}

// come lets a path be in a Dim's dictionary, and all that it stands under, if there is room.
func (m model) come(dim int, p []string) bool {
	paths := slices.Clone(m.dicts[dim])
	for n := range p {
		if m.code(dim, p[:n+1]) < 0 {
			paths = append(paths, slices.Clone(p[:n+1]))
		}
	}
	m.dicts[dim] = paths
	return len(paths) <= mostPaths
}

// fits tells whether all cells may be, and so many facts.
func (m model) fits() bool {
	for view := range corners(m.s) {
		if _, may := m.rows(view); !may {
			return false
		}
	}
	return m.facts() <= mostCount
}

// facts is how many facts there are.
func (m model) facts() int {
	count := 0
	for _, p := range m.parts {
		count += p.x.Count
	}
	return count
}

// rows is a view's rows, and whether all of them may be.
func (m model) rows(view int) ([]api.Row, bool) {
	under, keys := map[string][]api.Cell{}, map[string][][]string{}
	for _, p := range m.parts {
		key := first(p.paths, corners(m.s)[view])
		text := textOf(key)
		under[text], keys[text] = append(under[text], p.x), key
	}
	var rows []api.Row
	all := true
	for text, l := range under {
		x, may := merged(l)
		all = all && may
		rows = append(rows, api.Row{Key: keys[text], Cell: x})
	}
	slices.SortFunc(rows, func(a, b api.Row) int { return compare(a.Key, b.Key) })
	return rows, all
}

// first is the first names of paths, as many as levels say.
func first(paths [][]string, levels []int) [][]string {
	var key [][]string
	for i, p := range paths {
		key = append(key, p[:levels[i]])
	}
	return key
}

// textOf is a text that only one list of paths has.
func textOf(paths [][]string) string {
	s := ""
	for _, p := range paths {
		s += strings.Join(p, "/") + "|"
	}
	return s
}

// compare is what Cmp is to answer.
func compare(a, b [][]string) int {
	for i := range min(len(a), len(b)) {
		for j := range min(len(a[i]), len(b[i])) {
			if c := strings.Compare(a[i][j], b[i][j]); c != 0 {
				return c
			}
		}
		if c := cmp.Compare(len(a[i]), len(b[i])); c != 0 {
			return c
		}
	}
	return cmp.Compare(len(a), len(b))
}

// merged is cells that are not empty together, and whether that may be.
func merged(l []api.Cell) (api.Cell, bool) {
	measures := len(l[0].Sums)
	whole := api.Cell{Sums: make([]int, measures), Mins: make([]int, measures), Maxs: make([]int, measures)}
	may := true
	for _, x := range l {
		whole.Count += x.Count
	}
	for i := range measures {
		sum := new(big.Int)
		whole.Mins[i], whole.Maxs[i] = math.MaxInt, math.MinInt
		for _, x := range l {
			sum.Add(sum, big.NewInt(int64(x.Sums[i])))
			whole.Mins[i], whole.Maxs[i] = min(whole.Mins[i], x.Mins[i]), max(whole.Maxs[i], x.Maxs[i])
		}
		whole.Sums[i] = int(sum.Int64())
		may = may && sum.IsInt64() && whole.Sums[i] >= -mostSum && whole.Sums[i] <= mostSum
	}
	return whole, may && whole.Count <= mostCount
}

// bytes is what Put is to put. The library's numbers of changing length have wire's form when they are put.
func (m model) bytes() []byte {
	var b []byte
	for dim, paths := range m.dicts {
		b = append(b, row(len(paths))...)
		for _, p := range paths {
			last := len(p) - 1
			b = append(append(b, row(m.code(dim, p[:last]), len(p[last]))...), p[last]...)
		}
	}
	return append(b, m.bytesOfBase()...)
}

// bytesOfBase is the base's cells as bytes, in the order of their codes.
func (m model) bytesOfBase() []byte {
	rows, _ := m.rows(0)
	var cells [][]int
	for _, r := range rows {
		var numbers []int
		for dim, p := range r.Key {
			numbers = append(numbers, m.code(dim, p))
		}
		cells = append(cells, append(numbers, numbersOf(r.Cell)...))
	}
	slices.SortFunc(cells, slices.Compare[[]int])
	return append(row(len(cells)), row(slices.Concat(cells...)...)...)
}

// numbersOf is the numbers of a cell, as they are put.
func numbersOf(x api.Cell) []int {
	l := []int{x.Count}
	for i := range x.Sums {
		l = append(l, x.Sums[i], x.Mins[i], x.Maxs[i])
	}
	return l
}

// row is numbers as bytes.
func row(l ...int) []byte {
	var b []byte
	for _, n := range l {
		b = binary.AppendVarint(b, int64(n))
	}
	return b
}

// one is a cell of one value of each measure.
func one(values ...int) api.Cell {
	return api.Cell{Count: 1, Sums: slices.Clone(values), Mins: slices.Clone(values), Maxs: slices.Clone(values)}
}

// schemaOf is a schema with so many measures, these views, and Dims of so many levels.
func schemaOf(measures int, views [][]int, levels ...int) api.Schema {
	s := api.Schema{Measures: []string{"sum", "more"}[:measures:measures], Views: views}
	for i, n := range levels {
		s.Dims = append(s.Dims, api.Dim{Name: "d" + string(rune('a'+i)), Levels: []string{"l", "m", "n"}[:n:n]})
	}
	return s
}

// kinds is schemas of each number of Dims, levels and measures, without views and with as many as may be.
func kinds() []api.Schema {
	return []api.Schema{
		schemaOf(1, nil, 1),
		schemaOf(2, [][]int{{0}}, 1),
		schemaOf(1, [][]int{{1}, {0}}, 2),
		schemaOf(2, [][]int{{2}, {0}, {1}}, 3),
		schemaOf(1, nil, 2, 2),
		schemaOf(2, [][]int{{1, 0}, {0, 0}, {2, 0}, {0, 1}, {1, 1}}, 2, 1),
		schemaOf(1, [][]int{{0, 1, 2}}, 1, 1, 3),
		schemaOf(2, [][]int{{0, 0, 0}, {1, 2, 1}, {2, 0, 0}, {0, 3, 0}, {0, 0, 1}, {2, 1, 1}}, 2, 3, 1),
		schemaOf(1, [][]int{{3, 3, 0}, {0, 3, 3}, {1, 1, 1}, {2, 2, 2}, {3, 0, 0}, {0, 0, 0}}, 3, 3, 3),
	}
}

// paths is paths by their texts.
func paths(texts ...string) [][]string {
	l := make([][]string, len(texts))
	for i, s := range texts {
		if s != "" {
			l[i] = strings.Split(s, "/")
		}
	}
	return l
}

// fact is a fact of one measure.
func fact(value int, texts ...string) api.Fact {
	return api.Fact{Paths: paths(texts...), Values: []int{value}}
}

// two is a fact of two measures.
func two(first, second int, texts ...string) api.Fact {
	return api.Fact{Paths: paths(texts...), Values: []int{first, second}}
}

// facts is facts.
func facts(l ...api.Fact) []api.Fact { return l }

// dice is numbers without a pattern, the same at each run.
type dice uint32

// below is a number from 0 on that is below n.
func (d *dice) below(n int) int {
	*d = *d*1664525 + 1013904223
	return int(*d>>16) % n
}

// some is so many facts of a schema, with so many names at each place, and values of a list.
func some(s api.Schema, seed, count, names int, values ...int) []api.Fact {
	d := dice(uint32(seed)*2654435761 + 12345)
	l := make([]api.Fact, count)
	for i := range l {
		for _, dim := range s.Dims {
			var p []string
			for range dim.Levels {
				p = append(p, []string{"b", "a-", "a", "zz", "0", longest, "_", "-"}[d.below(names)])
			}
			l[i].Paths = append(l[i].Paths, p)
		}
		for range s.Measures {
			l[i].Values = append(l[i].Values, values[d.below(len(values))])
		}
	}
	return l
}

// small is values of which all sums may be.
func small() []int { return []int{5, -1, 7, 0, 12, -30, 1000, 64} }

// great is values of which some sums may be.
func great() []int { return []int{mostValue, -mostValue, mostValue, 1 - mostValue, 0, 1, -mostValue} }

// all is a list with the room behind it.
func all[T any](l []T) []T { return l[:cap(l)] }

// roomy is a list in memory of its own, with others in the room behind it.
func roomy[T any](l []T, others ...T) []T {
	return slices.Concat(l, others)[:len(l)]
}

// deep is paths in memory of their own, with others in the room behind each list.
func deep(l [][]string) [][]string {
	var mine [][]string
	for _, p := range l {
		mine = append(mine, roomy(p, "o", "o"))
	}
	return roomy(mine, []string{"o"}, []string{"o"})
}

// roomyFacts is facts in memory of their own, with others in the room behind each list.
func roomyFacts(l []api.Fact) []api.Fact {
	var mine []api.Fact
	for _, f := range l {
		mine = append(mine, api.Fact{Paths: deep(f.Paths), Values: roomy(f.Values, 77, 77)})
	}
	return roomy(mine, api.Fact{}, api.Fact{Paths: paths("o"), Values: []int{7}})
}

// roomySchema is a schema in memory of its own, with others in the room behind each list.
func roomySchema(s api.Schema) api.Schema {
	var dims []api.Dim
	for _, d := range s.Dims {
		dims = append(dims, api.Dim{Name: d.Name, Levels: roomy(d.Levels, "o", "o")})
	}
	var views [][]int
	for _, v := range s.Views {
		views = append(views, roomy(v, 1, 1))
	}
	return api.Schema{
		Dims:     roomy(dims, api.Dim{Name: "o", Levels: []string{"o"}}, api.Dim{}),
		Measures: roomy(s.Measures, "o", "o"),
		Views:    roomy(views, []int{0}, []int{0}),
	}
}

// lists is all lists in a value, at every depth, each with the room behind it, those that stand in another one ahead of it.
func lists(v reflect.Value) []reflect.Value {
	var l []reflect.Value
	switch v.Kind() {
	case reflect.Slice:
		v = v.Slice(0, v.Cap())
		for i := range v.Len() {
			l = append(l, lists(v.Index(i))...)
		}
		l = append(l, v)
	case reflect.Struct:
		for i := range v.NumField() {
			l = append(l, lists(v.Field(i))...)
		}
	}
	return l
}

// sameWithRoom tells whether values are the same, with what stands in the room behind each list.
func sameWithRoom(a, b any) bool {
	x, y := lists(reflect.ValueOf(a)), lists(reflect.ValueOf(b))
	return slices.EqualFunc(x, y, func(x, y reflect.Value) bool { return reflect.DeepEqual(x.Interface(), y.Interface()) })
}

// apart holds that no two lists of values share memory, neither in one value nor in two.
func apart(t *testing.T, about string, values ...any) {
	t.Helper()
	var l []reflect.Value
	for _, v := range values {
		for _, x := range lists(reflect.ValueOf(v)) {
			if x.Len() > 0 {
				l = append(l, x)
			}
		}
	}
	slices.SortFunc(l, func(x, y reflect.Value) int { return cmp.Compare(x.Pointer(), y.Pointer()) })
	for i := range max(len(l), 1) - 1 {
		if l[i].Pointer()+uintptr(l[i].Len())*l[i].Type().Elem().Size() > l[i+1].Pointer() {
			t.Errorf("%s: %v and %v share memory", about, l[i], l[i+1])
		}
	}
}

// spoil writes into each list of a value, into the room behind it too.
func spoil(v any) {
	for _, l := range lists(reflect.ValueOf(v)) {
		for i := range l.Len() {
			switch x := l.Index(i); x.Kind() {
			case reflect.Int:
				x.SetInt(99)
			case reflect.Uint8:
				x.SetUint(99)
			case reflect.String:
				x.SetString("spoilt")
			default:
				x.SetZero()
			}
		}
	}
}

// sameRows tells whether rows are the same.
func sameRows(a, b []api.Row) bool {
	return slices.EqualFunc(a, b, func(a, b api.Row) bool {
		return slices.EqualFunc(a.Key, b.Key, slices.Equal) && slices.Equal(numbersOf(a.Cell), numbersOf(b.Cell)) &&
			len(a.Cell.Mins) == len(b.Cell.Mins) && len(a.Cell.Maxs) == len(b.Cell.Maxs)
	})
}

// sameSchema tells whether schemas are the same; nil and empty lists are one.
func sameSchema(a, b api.Schema) bool {
	return slices.EqualFunc(a.Dims, b.Dims, func(a, b api.Dim) bool { return a.Name == b.Name && slices.Equal(a.Levels, b.Levels) }) &&
		slices.Equal(a.Measures, b.Measures) && slices.EqualFunc(a.Views, b.Views, slices.Equal)
}

// otherViews is numbers of no view, if there are so many.
func otherViews(count int) []int {
	return []int{-1, count, count + 1, -2, -count, 256, 257, -256, 1 << 32, -1 << 32, math.MaxInt, math.MinInt, math.MinInt + 1}
}

// check holds all that a lattice tells against a model.
func check(t *testing.T, about string, l *lattice.Lattice, m model) {
	t.Helper()
	if l == nil {
		t.Fatalf("%s: no lattice", about)
	}
	if l.Facts() != m.facts() || !sameSchema(l.Schema(), m.s) {
		t.Fatalf("%s: Facts %d, not %d, of %v", about, l.Facts(), m.facts(), l.Schema())
	}
	for view := range corners(m.s) {
		want, _ := m.rows(view)
		if got, e := l.Rows(view); e != api.OK || !sameRows(got, want) {
			t.Fatalf("%s: Rows(%d) is %v, %v, not %v", about, view, got, e, want)
		}
		if n, e := l.Len(view); e != api.OK || n != len(want) {
			t.Fatalf("%s: Len(%d) is %d, %v, not %d", about, view, n, e, len(want))
		}
	}
	for _, view := range otherViews(len(m.s.Views) + 1)[:2] {
		rows, e := l.Rows(view)
		n, errno := l.Len(view)
		if rows != nil || e != api.ErrView || n != 0 || errno != api.ErrView {
			t.Fatalf("%s: of view %d: %v, %v; %d, %v", about, view, rows, e, n, errno)
		}
	}
	if got, want := l.Put(nil), m.bytes(); !bytes.Equal(got, want) {
		t.Fatalf("%s: Put is %v, not %v", about, got, want)
	}
}

// both is a lattice of a schema, and its model, with those batches.
func both(t *testing.T, s api.Schema, batches ...[]api.Fact) (*lattice.Lattice, model) {
	t.Helper()
	l, e := lattice.New(s)
	if e != api.OK {
		t.Fatalf("New(%v) is %v", s, e)
	}
	m := none(s)
	for _, x := range batches {
		m = apply(t, l, m, x)
	}
	check(t, "what was put in", l, m)
	return l, m
}

// apply puts a batch in, and holds what is answered, all that is told then, and what was handed in against the model.
func apply(t *testing.T, l *lattice.Lattice, m model, batch []api.Fact) model {
	t.Helper()
	behind, want := m.with(batch)
	mine := roomyFacts(batch)
	if e := l.Apply(mine); e != want {
		t.Fatalf("Apply(%v) is %v, not %v", batch, e, want)
	}
	if !sameWithRoom(mine, roomyFacts(batch)) {
		t.Fatalf("Apply(%v) changed them to %v", batch, all(mine))
	}
	check(t, "behind Apply", l, behind)
	return behind
}

// refuse puts a batch in that is to be refused with that error, by the test's own word; apply holds that nothing changes.
func refuse(t *testing.T, l *lattice.Lattice, m model, want api.Errno, batch []api.Fact) {
	t.Helper()
	if _, e := m.with(batch); e != want {
		t.Fatalf("the test's own word on %v is %v, not %v", batch, e, want)
	}
	apply(t, l, m, batch)
}

// take puts a batch in that is to be taken.
func take(t *testing.T, l *lattice.Lattice, m model, batch []api.Fact) model {
	t.Helper()
	if _, e := m.with(batch); e != api.OK {
		t.Fatalf("the test's own word on %v is %v", batch, e)
	}
	return apply(t, l, m, batch)
}

// goOn puts further batches in, of members that are there and of others.
func goOn(t *testing.T, l *lattice.Lattice, m model) model {
	t.Helper()
	for seed := range 6 {
		m = apply(t, l, m, some(m.s, 900+seed, 1+seed, 2+seed, small()...))
	}
	return m
}

// batches is facts in batches of so many.
func batches(l []api.Fact, size int) [][]api.Fact { return slices.Collect(slices.Chunk(l, size)) }

// made is a lattice that is read, of the bytes of a model.
func made(t *testing.T, m model) *lattice.Lattice {
	t.Helper()
	r := wire.New(m.bytes())
	l := lattice.Read(r, m.s)
	if l == nil || r.End() != api.OK {
		t.Fatalf("Read of %v is %v, %v", m.bytes(), l, r.End())
	}
	check(t, "what was read", l, m)
	return l
}

// holding is a model with those parts, whose paths came in this order.
func holding(s api.Schema, parts ...part) model {
	m := none(s)
	m.parts = parts
	for _, p := range parts {
		for i, path := range p.paths {
			m.come(i, path)
		}
	}
	return m
}

// orders is each order of so many numbers.
func orders(count int) [][]int {
	l := [][]int{nil}
	for n := range count {
		var longer [][]int
		for _, o := range l {
			for at := range n + 1 {
				longer = append(longer, slices.Insert(slices.Clone(o), at, n))
			}
		}
		l = longer
	}
	return l
}
