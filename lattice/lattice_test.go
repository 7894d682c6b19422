package lattice_test

import (
	"bytes"
	"math"
	"slices"
	"strconv"
	"strings"
	"testing"

	"tesseract/api"
	"tesseract/lattice"
	"tesseract/wire"
)

// The document's example.
func TestExample(t *testing.T) {
	l, e := lattice.New(schemaOf(1, [][]int{{1}}, 2))
	if e != api.OK {
		t.Fatalf("New is %v", e)
	}
	if e := l.Apply(facts(fact(5, "a/x"), fact(7, "a/y"), fact(1, "b/x"))); e != api.OK || l.Facts() != 3 {
		t.Fatalf("Apply is %v, Facts %d", e, l.Facts())
	}
	for view, want := range [][]api.Row{
		{{Key: paths("a/x"), Cell: one(5)}, {Key: paths("a/y"), Cell: one(7)}, {Key: paths("b/x"), Cell: one(1)}},
		{{Key: paths("a"), Cell: api.Cell{Count: 2, Sums: []int{12}, Mins: []int{5}, Maxs: []int{7}}}, {Key: paths("b"), Cell: one(1)}},
	} {
		rows, e := l.Rows(view)
		if n, errno := l.Len(view); e != api.OK || errno != api.OK || n != len(want) || !sameRows(rows, want) {
			t.Errorf("Rows(%d) is %v, %v", view, rows, e)
		}
	}
	if rows, e := l.Rows(2); rows != nil || e != api.ErrView {
		t.Errorf("Rows(2) is %v, %v", rows, e)
	}
	want := slices.Concat([]byte{10, 0, 2, 'a', 2, 2, 'x', 2, 2, 'y', 0, 2, 'b', 8, 2, 'x'}, row(3, 2, 1, 5, 5, 5, 3, 1, 7, 7, 7, 5, 1, 1, 1, 1))
	if got := l.Put(nil); !bytes.Equal(got, want) {
		t.Errorf("Put is %v, not %v", got, want)
	}
}

// P11.1: New, of schemas that may be; the schema is as it was.
func TestNew(t *testing.T) {
	for _, s := range kinds() {
		mine := roomySchema(s)
		l, e := lattice.New(mine)
		if e != api.OK {
			t.Fatalf("New(%v) is %v", s, e)
		}
		check(t, "New", l, none(s))
		if !sameWithRoom(mine, roomySchema(s)) {
			t.Errorf("New changed %v to %v", s, mine)
		}
		for view, levels := range corners(s) {
			if n, e := l.Len(view); n != 0 || e != api.OK {
				t.Errorf("Len(%d) of %v is %d, %v", view, levels, n, e)
			}
		}
	}
}

// turned is a schema with something turned.
func turned(turn func(s *api.Schema)) api.Schema {
	s := roomySchema(schemaOf(2, [][]int{{1, 2}, {0, 0}}, 2, 3))
	turn(&s)
	return s
}

// mayNotBe is schemas that may not be.
func mayNotBe() []api.Schema {
	l := []api.Schema{
		{},
		turned(func(s *api.Schema) { s.Dims = nil }),
		turned(func(s *api.Schema) { s.Dims, s.Views = nil, nil }),
		schemaOf(1, nil, 1, 1, 1, 1),
		turned(func(s *api.Schema) { s.Dims[1].Name = s.Dims[0].Name }),
		turned(func(s *api.Schema) { s.Dims[1].Levels = nil }),
		turned(func(s *api.Schema) { s.Dims[1].Levels = []string{"l", "m", "n", "o"} }),
		turned(func(s *api.Schema) { s.Dims[0].Levels[1] = "l" }),
		turned(func(s *api.Schema) { s.Measures = nil }),
		turned(func(s *api.Schema) { s.Measures = []string{"x", "y", "z"} }),
		turned(func(s *api.Schema) { s.Measures[1] = "sum" }),
		schemaOf(1, [][]int{{0, 0}, {0, 1}, {0, 2}, {1, 0}, {1, 1}, {1, 2}, {2, 0}}, 2, 2),
		turned(func(s *api.Schema) { s.Views[0] = []int{2, 3} }),
		turned(func(s *api.Schema) { s.Views[0] = []int{0, 0} }),
		turned(func(s *api.Schema) { s.Views[1] = []int{0} }),
		turned(func(s *api.Schema) { s.Views[1] = nil }),
		turned(func(s *api.Schema) { s.Views[1] = []int{0, 0, 0} }),
		turned(func(s *api.Schema) { s.Views[1] = []int{0, -1} }),
		turned(func(s *api.Schema) { s.Views[1] = []int{3, 0} }),
		turned(func(s *api.Schema) { s.Views[1] = []int{0, 4} }),
	}
	for _, name := range []string{"", "A", "a/b", "é", "\xff", tooLong} {
		l = append(l,
			turned(func(s *api.Schema) { s.Dims[1].Name = name }),
			turned(func(s *api.Schema) { s.Dims[0].Levels[1] = name }),
			turned(func(s *api.Schema) { s.Measures[0] = name }))
	}
	return l
}

// P11.1: New, of schemas that may not be.
func TestNewOfOthers(t *testing.T) {
	for _, s := range mayNotBe() {
		mine := roomySchema(s)
		if l, e := lattice.New(mine); l != nil || e != api.ErrSchema {
			t.Errorf("New(%v) is %v, %v", s, l, e)
		}
		if !sameWithRoom(mine, roomySchema(s)) {
			t.Errorf("New changed %v to %v", s, mine)
		}
	}
}

// P11.1: Apply, of each number of facts, in one batch and in several.
func TestApply(t *testing.T) {
	for _, s := range kinds() {
		for count := range mostFacts + 1 {
			l := some(s, count, count, 3, small()...)
			for size := 1; size <= max(count, 1); size++ {
				_, m := both(t, s, batches(l, size)...)
				if m.facts() != count {
					t.Fatalf("%d facts, not %d", m.facts(), count)
				}
			}
		}
		both(t, s, batches(some(s, 77, 60, 3, small()...), 5)...)
		both(t, s, batches(some(s, 78, 60, 8, small()...), 8)...)
		both(t, s, batches(slices.Repeat(some(s, 79, 1, 8, small()...), 20), 7)...)
	}
}

// P11.1: no fact, and more than may be in one batch.
func TestApplyOfOtherNumbers(t *testing.T) {
	for _, s := range kinds() {
		for _, ahead := range []int{0, 1, 8} {
			l, m := both(t, s, batches(some(s, 3, ahead, 3, small()...), 8)...)
			refuse(t, l, m, api.ErrFacts, nil)
			refuse(t, l, m, api.ErrFacts, []api.Fact{})
			for _, count := range []int{9, 10, 16, 17, 256, 257} {
				refuse(t, l, m, api.ErrFacts, some(s, count, count, 5, small()...))
			}
			goOn(t, l, m)
		}
	}
}

// notFacts is facts that may not be for a schema.
func notFacts(s api.Schema) []api.Fact {
	var l []api.Fact
	with := func(turn func(f *api.Fact)) {
		f := roomyFacts(some(s, 5, 1, 3, small()...))[0]
		turn(&f)
		l = append(l, f)
	}
	with(func(f *api.Fact) { *f = api.Fact{} })
	with(func(f *api.Fact) { f.Paths = nil })
	with(func(f *api.Fact) { f.Paths = f.Paths[1:] })
	with(func(f *api.Fact) { f.Paths = append(f.Paths, []string{"a"}) })
	with(func(f *api.Fact) { f.Values = nil })
	with(func(f *api.Fact) { f.Values = f.Values[1:] })
	with(func(f *api.Fact) { f.Values = append(f.Values, 5) })
	for i := range s.Dims {
		with(func(f *api.Fact) { f.Paths[i] = nil })
		with(func(f *api.Fact) { f.Paths[i] = f.Paths[i][1:] })
		with(func(f *api.Fact) { f.Paths[i] = append(f.Paths[i], "a") })
		for place := range s.Dims[i].Levels {
			for _, name := range []string{"", "A", "a/b", "*", "é", tooLong} {
				with(func(f *api.Fact) { f.Paths[i][place] = name })
			}
		}
	}
	for i := range s.Measures {
		for _, n := range []int{mostValue + 1, -mostValue - 1, math.MaxInt, math.MinInt} {
			with(func(f *api.Fact) { f.Values[i] = n })
		}
	}
	return l
}

// P11.1: facts that may not be, at each place of a batch.
func TestApplyOfNoFacts(t *testing.T) {
	for _, s := range kinds() {
		l, m := both(t, s, some(s, 4, 5, 3, small()...))
		for _, bad := range notFacts(s) {
			for count := 1; count <= 3; count++ {
				for place := range count {
					batch := some(s, 6, count, 5, small()...)
					batch[place] = bad
					refuse(t, l, m, api.ErrFact, batch)
				}
			}
		}
		goOn(t, l, m)
	}
}

// filled is a lattice of which a Dim's dictionary has so many paths, at least as many as there are levels.
func filled(t *testing.T, s api.Schema, dim, count int) (*lattice.Lattice, model) {
	t.Helper()
	l, e := lattice.New(s)
	if e != api.OK {
		t.Fatal(e)
	}
	m := none(s)
	for i := range count - len(s.Dims[dim].Levels) + 1 {
		batch := some(s, 1, 1, 2, small()...)
		batch[0].Paths[dim] = lacking(s, dim, 1, "m"+strconv.Itoa(i))
		l.Apply(batch)
		m, _ = m.with(batch)
	}
	if len(m.dicts[dim]) != count {
		t.Fatalf("filled up to %d, not %d", len(m.dicts[dim]), count)
	}
	check(t, "filled", l, m)
	return l, m
}

// lacking is a path whose last names, so many, are this one.
func lacking(s api.Schema, dim, last int, name string) []string {
	levels := len(s.Dims[dim].Levels)
	return append(slices.Repeat([]string{"m"}, levels-last), slices.Repeat([]string{name}, last)...)
}

// P11.1: paths that have no room in their dictionary: in each Dim, at each place of a batch, where one path or more are lacking, and just as many as there is room for.
func TestApplyWithoutRoom(t *testing.T) {
	s := schemaOf(1, [][]int{{0, 1, 0}, {1, 1, 1}}, 1, 3, 2)
	for dim, levels := range full(s) {
		for need := 1; need <= levels; need++ {
			for room := range need + 1 {
				l, m := filled(t, s, dim, mostPaths-room)
				for count := 1; count <= 4; count++ {
					for place := range count {
						batch := some(s, 8+count, count, 5, small()...) // of others in the other Dims
						for i := range batch {
							batch[i].Paths[dim] = lacking(s, dim, 1, "m0")
						}
						batch[place].Paths[dim] = lacking(s, dim, need, "new")
						if room < need {
							refuse(t, l, m, api.ErrPaths, batch)
							continue
						}
						copied := l.Copy()
						take(t, copied, m, batch)
					}
				}
				known := some(s, 9, 8, 5, small()...)
				for i := range known {
					known[i].Paths[dim] = lacking(s, dim, 1, "m"+strconv.Itoa(i))
				}
				m = take(t, l, m, known) // there is room for all that is there
				goOn(t, l, m)
			}
		}
	}
}

// P11.1: paths that have room one by one, but not together, in one batch; the first ones of them stay out, too.
func TestApplyWithoutRoomForAll(t *testing.T) {
	for _, s := range []api.Schema{schemaOf(1, [][]int{{1}}, 2), schemaOf(1, nil, 1, 2), schemaOf(2, [][]int{{0, 1}}, 2, 2)} {
		dim := len(s.Dims) - 1
		for _, room := range []int{1, 2, 3, 7} {
			l, m := filled(t, s, dim, mostPaths-room)
			for count := 1; count <= mostFacts; count++ {
				batch := some(s, count, count, 2, small()...)
				for i := range batch {
					batch[i].Paths[dim] = lacking(s, dim, 1, "n"+strconv.Itoa(i))
				}
				if count > room {
					refuse(t, l, m, api.ErrPaths, batch)
				} else {
					take(t, l.Copy(), m, batch)
				}
			}
			batch := some(s, 5, room, 2, small()...)
			for i := range batch {
				batch[i].Paths[dim] = lacking(s, dim, 1, "z"+strconv.Itoa(i))
			}
			m = take(t, l, m, batch)
			batch[0].Paths[dim] = lacking(s, dim, 1, "last")
			refuse(t, l, m, api.ErrPaths, batch)
			goOn(t, l, m)
		}
	}
}

// with2 is a list of facts of two measures: the values of one are those of the facts, in one measure, those of the other one small.
func with2(l []api.Fact, great int) []api.Fact {
	var both []api.Fact
	for i, f := range l {
		values := []int{i, i}
		values[great] = f.Values[0]
		both = append(both, api.Fact{Paths: f.Paths, Values: values})
	}
	return both
}

// P11.1: facts whose sum under one key may be, or not, by the test's own word: in the base, in views above it, by themselves and together with what is there.
func TestApplyOfGreatSums(t *testing.T) {
	const v = mostValue
	for _, x := range []struct {
		about string
		there []api.Fact
		batch []api.Fact
		want  api.Errno
	}{
		{"the greatest sum", nil, facts(fact(v, "a/x"), fact(v, "a/x")), api.OK},
		{"one more", nil, facts(fact(v, "a/x"), fact(v, "a/x"), fact(1, "a/x")), api.ErrRange},
		{"the least sum", nil, facts(fact(-v, "a/x"), fact(-v, "a/x")), api.OK},
		{"one less", nil, facts(fact(-v, "a/x"), fact(-v, "a/x"), fact(-1, "a/x")), api.ErrRange},
		{"in the view above alone", nil, facts(fact(v, "a/x"), fact(v, "a/y"), fact(1, "a/z"), fact(-1, "b/x")), api.ErrRange},
		{"in the view of all alone", nil, facts(fact(v, "a/x"), fact(v, "b/y"), fact(1, "c/z")), api.ErrRange},
		{"in the base alone", nil, facts(fact(v, "a/x"), fact(v, "a/x"), fact(v, "a/x"), fact(-v, "a/y")), api.ErrRange},
		{"in the base alone, below the least", nil, facts(fact(-v, "a/x"), fact(-v, "a/x"), fact(-1, "a/x"), fact(v, "a/y")), api.ErrRange},
		{"under a later key alone", nil, facts(fact(-v, "a/x"), fact(v, "b/x"), fact(v, "b/x"), fact(v, "b/x")), api.ErrRange},
		{"too great on the way", nil, facts(fact(v, "a/x"), fact(v, "a/x"), fact(v, "a/x"), fact(-v, "a/x")), api.OK},
		{"far too great on the way", nil, facts(fact(v, "a/x"), fact(v, "a/x"), fact(v, "a/x"), fact(v, "a/x"), fact(-v, "a/x"), fact(-v, "a/x")), api.OK},
		{"too great on the way in a view", nil, facts(fact(v, "a/x"), fact(v, "a/y"), fact(v, "a/z"), fact(-v, "a/w")), api.OK},
		{"together with what is there", facts(fact(v, "a/x"), fact(v, "a/x")), facts(fact(1, "a/x")), api.ErrRange},
		{"together with what is there, just", facts(fact(v, "a/x"), fact(v-1, "a/x")), facts(fact(1, "a/x")), api.OK},
		{"together with what is there, in the view alone", facts(fact(v, "a/x"), fact(v, "a/y")), facts(fact(1, "a/z")), api.ErrRange},
		{"together with what is there, in the view of all alone", facts(fact(-v, "a/x"), fact(-v, "b/y")), facts(fact(-1, "c/z")), api.ErrRange},
		{"together with what is there, in the base alone", facts(fact(v, "a/x"), fact(v, "a/x")), facts(fact(1, "a/x"), fact(-1, "a/y")), api.ErrRange},
		{"by themselves alone", facts(fact(-v, "a/x"), fact(-v, "a/x")), facts(fact(v, "a/x"), fact(v, "a/x"), fact(v, "a/x")), api.OK},
		{"by themselves alone, in a view", facts(fact(-v, "a/x"), fact(-v, "a/y")), facts(fact(v, "a/x"), fact(v, "a/y"), fact(v, "a/z")), api.OK},
		{"by themselves alone, as great as may be", facts(fact(-v, "a/x"), fact(-v, "a/x")), slices.Repeat(facts(fact(v, "a/x")), 4), api.OK},
		{"by themselves, and with what is there", facts(fact(-v, "a/x"), fact(-v, "a/x")), slices.Repeat(facts(fact(v, "a/x")), 5), api.ErrRange},
		{"all as great as may be", nil, slices.Repeat(facts(fact(v, "a/x")), 8), api.ErrRange},
		{"all as little as may be", nil, slices.Repeat(facts(fact(-v, "a/x")), 8), api.ErrRange},
		{"by themselves alone, under two keys", facts(fact(-v, "a/x"), fact(-v, "a/x"), fact(v, "b/x"), fact(v, "b/x")),
			facts(fact(v, "a/x"), fact(-v, "b/x"), fact(v, "a/x"), fact(-v, "b/x"), fact(v, "a/x"), fact(-v, "b/x"), fact(3, "c/x")), api.OK},
		{"some of what is there, and no more", facts(fact(5, "a/x"), fact(6, "b/x"), fact(-v, "b/y"), fact(-v, "b/y"), fact(7, "c/x")),
			facts(fact(v, "b/y"), fact(v, "b/y"), fact(v, "b/y")), api.OK},
	} {
		for measure := -1; measure < mostMeasures; measure++ {
			s, there, batch := schemaOf(1, [][]int{{1}, {0}}, 2), x.there, x.batch
			if measure >= 0 {
				s, there, batch = schemaOf(2, [][]int{{0}, {1}}, 2), with2(there, measure), with2(batch, measure)
			}
			for _, order := range orders(min(len(batch), 4)) {
				turned := slices.Clone(batch)
				for i, n := range order {
					turned[i] = batch[n]
				}
				l, m := both(t, s)
				if len(there) > 0 {
					m = take(t, l, m, there)
				}
				if x.want == api.OK {
					m = take(t, l, m, turned)
				} else {
					refuse(t, l, m, x.want, turned)
				}
				goOn(t, l, m)
			}
		}
	}
}

// P11.1: what may be together and hasn't an order in which each part may be, as one measure or the other is too great on the way.
func TestApplyWithoutAnOrder(t *testing.T) {
	const v = mostValue
	for _, x := range []struct{ there, batch []api.Fact }{
		{facts(two(-v, v, "a"), two(-v, v, "a")), facts(two(-1, -v, "a"), two(v, 1, "a"), two(v, 1, "a"), two(v, 1, "a"))},
		{facts(two(v, v, "a"), two(v, v, "a")), facts(two(v, -v, "a"), two(-v, v, "a"))},
		{facts(two(v, v, "a"), two(v, v, "a")), facts(two(v, -v, "a"), two(v, -v, "a"), two(v, -v, "a"), two(-v, v, "a"), two(-v, v, "a"), two(-v, v, "a"))},
		{facts(two(v, -v, "a"), two(v, -v, "a")), facts(two(-v, v, "a"), two(-v, v, "a"), two(-v, v, "a"), two(-v, v, "a"))},
	} {
		for turn := range x.batch {
			batch := slices.Concat(x.batch[turn:], x.batch[:turn])
			l, m := both(t, schemaOf(2, nil, 1), facts(two(3, 4, "b")), x.there)
			goOn(t, l, take(t, l, m, batch))
			l, m = both(t, schemaOf(2, [][]int{{0}}, 1), x.there)
			goOn(t, l, take(t, l, m, batch))
		}
	}
}

// P11.1: as many facts as may be, and more: under one key, under several, and in a view alone.
func TestApplyBeyondMostFacts(t *testing.T) {
	zero := func(count int, texts ...string) part {
		return part{paths(texts...), api.Cell{Count: count, Sums: []int{0}, Mins: []int{0}, Maxs: []int{0}}}
	}
	for _, s := range []api.Schema{schemaOf(1, nil, 1), schemaOf(1, [][]int{{0}}, 1)} {
		for _, x := range []struct {
			parts []part
			room  int
		}{
			{[]part{zero(mostCount, "a")}, 0},
			{[]part{zero(mostCount-1, "a")}, 1},
			{[]part{zero(mostCount-8, "a")}, 8},
			{[]part{zero(mostCount-9, "a"), one1("b", 0)}, 8},
			{[]part{zero(mostCount/2, "a"), zero(mostCount/2-3, "b")}, 3},
			{[]part{zero(mostCount/2, "a"), zero(mostCount/2, "b")}, 0},
		} {
			for _, member := range []string{"a", "b", "c"} {
				m := holding(s, x.parts...)
				l := made(t, m)
				for count := x.room + 1; count <= mostFacts; count++ {
					refuse(t, l, m, api.ErrRange, slices.Repeat(facts(fact(0, member)), count))
				}
				refuse(t, l, m, api.ErrFacts, nil)
				if x.room > 0 {
					m = take(t, l, m, slices.Repeat(facts(fact(0, member)), x.room))
				}
				refuse(t, l, m, api.ErrRange, facts(fact(0, member)))
				refuse(t, l, m, api.ErrRange, facts(fact(0, "new")))
				if l.Facts() != mostCount {
					t.Errorf("Facts is %d", l.Facts())
				}
			}
		}
	}
}

// one1 is a part of one value under one member.
func one1(member string, value int) part { return part{paths(member), one(value)} }

// P11.1: which error is told where two are due.
func TestWhichError(t *testing.T) {
	const v = mostValue
	s := schemaOf(1, [][]int{{0, 0}}, 1, 2)
	l, m := filled(t, s, 1, mostPaths)
	m = take(t, l, m, facts(fact(v, "a", "m/m0")))
	noRoom, noFact, tooGreat := fact(1, "a", "new/x"), fact(1, "a", "m"), fact(v, "a", "m/m0")
	nine := slices.Repeat(facts(fact(1, "a", "m/m0")), 9)
	for _, x := range []struct {
		about string
		batch []api.Fact
		want  api.Errno
	}{
		{"too many, and one that may not be", append(facts(noFact), nine...), api.ErrFacts},
		{"too many, and one without room", append(facts(noRoom), nine...), api.ErrFacts},
		{"too many, and a sum too great", append(facts(tooGreat, tooGreat), nine...), api.ErrFacts},
		{"one without room, and one that may not be", facts(noRoom, noFact), api.ErrFact},
		{"one that may not be, and one without room", facts(noFact, noRoom), api.ErrFact},
		{"a sum too great, and one that may not be", facts(tooGreat, tooGreat, noFact), api.ErrFact},
		{"one that may not be, and a sum too great", facts(noFact, tooGreat, tooGreat), api.ErrFact},
		{"a sum too great, and one without room", facts(tooGreat, tooGreat, noRoom), api.ErrPaths},
		{"one without room, and a sum too great", facts(noRoom, tooGreat, tooGreat), api.ErrPaths},
		{"a fact without room, whose value is too great with others", facts(tooGreat, fact(v, "a", "new/x")), api.ErrPaths},
		{"without a second one a sum too great", facts(tooGreat, tooGreat), api.ErrRange},
	} {
		t.Log(x.about)
		refuse(t, l, m, x.want, x.batch)
	}
	goOn(t, l, m)
	full := holding(s, part{paths("a", "m/m0"), api.Cell{Count: mostCount, Sums: []int{0}, Mins: []int{0}, Maxs: []int{0}}})
	for i := 1; i < mostPaths-1; i++ {
		full.come(1, []string{"m", "m" + strconv.Itoa(i)})
	}
	l = made(t, full)
	refuse(t, l, full, api.ErrPaths, facts(noRoom))
	refuse(t, l, full, api.ErrRange, facts(fact(1, "b", "m/m0")))
}

// P11.2: Len and Rows, of each view and of others.
func TestViews(t *testing.T) {
	for _, s := range kinds() {
		l, m := both(t, s, batches(some(s, 2, 20, 3, small()...), 8)...)
		for _, view := range otherViews(len(s.Views) + 1) {
			n, e := l.Len(view)
			rows, errno := l.Rows(view)
			if n != 0 || e != api.ErrView || rows != nil || errno != api.ErrView {
				t.Errorf("of view %d of %d: %d, %v, %v, %v", view, len(s.Views)+1, n, e, rows, errno)
			}
		}
		check(t, "behind Rows", l, m)
	}
}

// P11.2: rows are in the order of their paths, whatever order the codes are in, and each stands there just once.
func TestOrderOfRows(t *testing.T) {
	texts := []string{"-/b", "a/-", "a/z", "a-/a", "b/a", "b/" + longest}
	s := schemaOf(1, [][]int{{0, 2}, {2, 0}}, 2, 2)
	for _, order := range orders(len(texts)) {
		if order[0] > order[3] { // the half of them is enough
			continue
		}
		l, _ := both(t, s)
		for _, n := range order {
			for _, other := range []string{"z/z", "a/a", "z/z"} {
				if e := l.Apply(facts(fact(n, texts[n], other))); e != api.OK {
					t.Fatal(e)
				}
			}
		}
		for view, want := range []string{
			"-/b|a/a| -/b|z/z| a/-|a/a| a/-|z/z| a/z|a/a| a/z|z/z| a-/a|a/a| a-/a|z/z| b/a|a/a| b/a|z/z| b/" + longest + "|a/a| b/" + longest + "|z/z|",
			"|a/a| |z/z|",
			"-/b|| a/-|| a/z|| a-/a|| b/a|| b/" + longest + "||",
		} {
			rows, e := l.Rows(view)
			var got []string
			for _, r := range rows {
				got = append(got, textOf(r.Key))
			}
			if e != api.OK || strings.Join(got, " ") != want {
				t.Fatalf("Rows(%d) is %v, %v, not %v", view, got, e, want)
			}
		}
	}
}

// P11.2: the first Dim is looked at ahead of the second one, and that ahead of the third.
func TestOrderOfDims(t *testing.T) {
	s := schemaOf(1, [][]int{{0, 1, 1}, {1, 0, 1}, {1, 1, 0}, {0, 0, 1}, {0, 0, 0}}, 1, 1, 1)
	l, m := both(t, s)
	var all []api.Fact
	for i := range 27 {
		n := (i*16 + 5) % 27
		all = append(all, fact(i, string(rune('a'+n/9)), string(rune('z'-n/3%3)), string(rune('a'+n%3))))
	}
	for _, b := range batches(all, 4) {
		m = take(t, l, m, b)
	}
	rows, _ := l.Rows(0)
	for i, r := range rows {
		if want := string(rune('a'+i/9)) + "|" + string(rune('x'+i/3%3)) + "|" + string(rune('a'+i%3)) + "|"; textOf(r.Key) != want {
			t.Errorf("row %d is %v, not %s", i, r.Key, want)
		}
	}
	if len(rows) != 27 {
		t.Errorf("%d rows", len(rows))
	}
}

// P11.2: of a view of which a Dim has level 0 the key has the path of no name there.
func TestLevelNought(t *testing.T) {
	s := schemaOf(1, [][]int{{0, 2}, {1, 0}, {0, 0}}, 2, 2)
	l, _ := both(t, s, facts(fact(1, "a/x", "q/r"), fact(2, "b/x", "q/r"), fact(4, "a/y", "q/s")))
	for view, want := range [][]api.Row{
		{{Key: paths("a/x", "q/r"), Cell: one(1)}, {Key: paths("a/y", "q/s"), Cell: one(4)}, {Key: paths("b/x", "q/r"), Cell: one(2)}},
		{{Key: paths("", "q/r"), Cell: api.Cell{Count: 2, Sums: []int{3}, Mins: []int{1}, Maxs: []int{2}}}, {Key: paths("", "q/s"), Cell: one(4)}},
		{{Key: paths("a", ""), Cell: api.Cell{Count: 2, Sums: []int{5}, Mins: []int{1}, Maxs: []int{4}}}, {Key: paths("b", ""), Cell: one(2)}},
		{{Key: paths("", ""), Cell: api.Cell{Count: 3, Sums: []int{7}, Mins: []int{1}, Maxs: []int{4}}}},
	} {
		if rows, e := l.Rows(view); e != api.OK || !sameRows(rows, want) {
			t.Errorf("Rows(%d) is %v, %v, not %v", view, rows, e, want)
		}
	}
}

// P11.2: Copy, of no fact and of several; neither knows of what is put into the other later, nor of what the other refuses.
func TestCopy(t *testing.T) {
	for _, s := range kinds() {
		for _, count := range []int{0, 1, 24} {
			first, m := both(t, s, batches(some(s, 5, count, 3, small()...), 8)...)
			second := first.Copy()
			check(t, "Copy", second, m)
			one, other := m, m
			for seed := range 12 {
				batch := some(s, seed, 1+seed%3, 2+seed%5, great()...)
				if seed%2 == 0 {
					one = apply(t, first, one, batch)
				} else {
					other = apply(t, second, other, batch)
				}
				check(t, "the first", first, one)
				check(t, "its copy", second, other)
			}
			third := second.Copy()
			last := goOn(t, second, other)
			check(t, "a copy of the copy", third, other)
			check(t, "the first", first, one)
			goOn(t, third, other)
			check(t, "the copy", second, last)
		}
	}
}

// P11.2: Cmp, of lists in their order.
func TestCmp(t *testing.T) {
	rising := [][][]string{
		{},
		{{}},
		{{}, {}},
		{{}, {}, {}},
		{{}, {}, {"a"}},
		{{}, {"a"}},
		{{}, {"a", "b"}},
		{{""}},
		{{"", ""}},
		{{"-"}},
		{{"A"}},
		{{"a"}},
		{{"a"}, {}},
		{{"a"}, {}, {"z"}},
		{{"a"}, {"a"}},
		{{"a"}, {"a"}, {}},
		{{"a"}, {"a"}, {"a"}},
		{{"a"}, {"a"}, {"a"}, {"a"}},
		{{"a"}, {"a"}, {"b"}},
		{{"a"}, {"a", ""}},
		{{"a"}, {"a", "a"}, {"a"}},
		{{"a"}, {"b"}},
		{{"a"}, {"b"}, {"a"}},
		{{"a", "a"}},
		{{"a", "a"}, {"a"}},
		{{"a", "a", "a", "a"}},
		{{"a", "b"}},
		{{"a-"}},
		{{"a-", "a"}},
		{{"aa"}},
		{{"b"}},
		{{"b"}, {"a"}},
		{{"b", "a"}},
		{{"\xff"}},
	}
	for i, a := range rising {
		for j, b := range rising {
			mine, other := deep(a), deep(b)
			want := 0
			switch {
			case i < j:
				want = -1
			case i > j:
				want = 1
			}
			if got := lattice.Cmp(mine, other); got != want || got != compare(a, b) {
				t.Errorf("Cmp(%q, %q) is %d, not %d", a, b, got, want)
			}
			if !sameWithRoom(mine, deep(a)) || !sameWithRoom(other, deep(b)) {
				t.Errorf("Cmp changed %q or %q", a, b)
			}
		}
	}
	for _, a := range [][][]string{nil, {}} {
		for _, b := range [][][]string{nil, {}} {
			if lattice.Cmp(a, b) != 0 || lattice.Cmp(append(a, nil), append(b, []string{})) != 0 || lattice.Cmp(a, [][]string{nil}) != -1 || lattice.Cmp([][]string{nil}, b) != 1 {
				t.Error("nil and empty lists are not one")
			}
		}
	}
}

// P11.2: the order of rows is Cmp's.
func TestRowsByCmp(t *testing.T) {
	for _, s := range kinds() {
		l, _ := both(t, s, batches(some(s, 31, 40, 4, small()...), 8)...)
		for view := range corners(s) {
			rows, _ := l.Rows(view)
			for i := range max(len(rows), 1) - 1 {
				if lattice.Cmp(rows[i].Key, rows[i+1].Key) != -1 || lattice.Cmp(rows[i+1].Key, rows[i].Key) != 1 {
					t.Errorf("%v stands ahead of %v", rows[i].Key, rows[i+1].Key)
				}
			}
		}
	}
}

// P11.4: each cell is the fold of all facts under its key, in whatever order they came, and in whatever batches.
func TestFoldInEveryOrder(t *testing.T) {
	s := schemaOf(2, [][]int{{1, 0}, {0, 0}, {2, 0}}, 2, 1)
	all := facts(two(5, -3, "b/x", "q"), two(-2, 9, "a/x", "r"), two(7, 0, "b/x", "q"), two(1, 1, "b/-", "q"), two(0, 4, "a/x", "q"))
	var want [][]api.Row
	_, m := both(t, s, all)
	for view := range corners(s) {
		rows, _ := m.rows(view)
		want = append(want, rows)
	}
	for _, order := range orders(len(all)) {
		for cuts := range 1 << (len(all) - 1) {
			l, e := lattice.New(s)
			var batch []api.Fact
			for i, n := range order {
				if batch = append(batch, all[n]); i == len(all)-1 || cuts>>i&1 == 1 {
					if e = l.Apply(batch); e != api.OK {
						t.Fatalf("Apply(%v) is %v", batch, e)
					}
					batch = nil
				}
			}
			for view := range want {
				if rows, e := l.Rows(view); e != api.OK || !sameRows(rows, want[view]) {
					t.Fatalf("in the order %v, cut %b, Rows(%d) is %v, not %v", order, cuts, view, rows, want[view])
				}
			}
		}
	}
}

// P11.1 to P11.6: many calls of all kinds, one behind the other.
func TestManyCalls(t *testing.T) {
	seen := map[api.Errno]int{}
	for _, s := range kinds() {
		for seed := range 6 {
			d := dice(seed)
			l, m := both(t, s)
			for range 40 {
				count := 1 + d.below(mostFacts)
				values := great()
				if d.below(3) == 0 {
					values = small()
				}
				batch := some(s, d.below(1<<16), count, 1+d.below(8), values...)
				switch d.below(20) {
				case 0:
					batch = nil
				case 1:
					batch[d.below(count)].Values[0] = mostValue + 1
				case 2:
					batch[d.below(count)].Paths[0][0] = "new" + strconv.Itoa(d.below(100))
				case 3:
					before := l
					l = l.Copy()
					before.Apply(batch)
				case 4:
					l = lattice.Read(wire.New(l.Put([]byte{7})[1:]), s)
				}
				_, e := m.with(batch)
				seen[e]++
				m = apply(t, l, m, batch)
			}
		}
	}
	for e, least := range map[api.Errno]int{api.OK: 500, api.ErrFacts: 25, api.ErrFact: 50, api.ErrPaths: 50, api.ErrRange: 250} {
		if seen[e] < least {
			t.Errorf("so many of each: %v", seen)
		}
	}
}

// P11.1, P11.2 and P11.5: as many cells as the base may have.
func TestAllCells(t *testing.T) {
	s := schemaOf(1, [][]int{{1, 1, 0}, {0, 0, 0}, {0, 1, 0}}, 1, 1, 1)
	l, e := lattice.New(s)
	if e != api.OK {
		t.Fatal(e)
	}
	name := func(n int) string { return "m" + strconv.Itoa(n%mostPaths) }
	const all = mostPaths * mostPaths * mostPaths
	var batch []api.Fact
	for i := range all {
		n := i * 7919 % all // each once
		if batch = append(batch, fact(n, name(n/1600), name(n/40), name(n))); len(batch) == mostFacts {
			if e := l.Apply(batch); e != api.OK {
				t.Fatalf("Apply is %v", e)
			}
			batch = nil
		}
	}
	read := lattice.Read(wire.New(l.Put(nil)), s)
	if read == nil {
		t.Fatal("what was put is not read")
	}
	for view, cells := range []int{all, mostPaths * mostPaths, 1, mostPaths} {
		rows, _ := l.Rows(view)
		again, _ := read.Rows(view)
		n, _ := read.Len(view)
		sum := 0
		for _, r := range rows {
			sum += r.Cell.Sums[0]
		}
		if len(rows) != cells || n != cells || !sameRows(rows, again) || sum != all*(all-1)/2 {
			t.Errorf("view %d has %d rows, and %d cells when it is read, and the sum %d", view, len(rows), n, sum)
		}
	}
	if l.Facts() != all || read.Facts() != all {
		t.Errorf("Facts is %d, and %d", l.Facts(), read.Facts())
	}
}

// R4: what is handed in is not kept: it may be written to behind the call.
func TestNothingIsKept(t *testing.T) {
	for _, s := range kinds() {
		mine := roomySchema(s)
		l, e := lattice.New(mine)
		if e != api.OK {
			t.Fatal(e)
		}
		m := none(s)
		spoil(mine)
		check(t, "behind spoiling the schema", l, m)
		for _, b := range batches(some(s, 21, 24, 4, small()...), 6) {
			batch := roomyFacts(b)
			if e := l.Apply(batch); e != api.OK {
				t.Fatal(e)
			}
			m, _ = m.with(b)
			spoil(batch)
			check(t, "behind spoiling a batch", l, m)
		}
		mine = roomySchema(s)
		b := append(l.Put(nil), 1, 2)
		r := wire.New(b)
		read := lattice.Read(r, mine)
		spoil(mine)
		spoil(b)
		check(t, "behind spoiling what was read", read, m)
		goOn(t, read, m)
		goOn(t, l, m)
	}
}

// R4: one list at several places of what is handed in.
func TestOneListInSeveralPlaces(t *testing.T) {
	list, view := []string{"l", "m"}, []int{1, 1}
	s := api.Schema{Dims: []api.Dim{{Name: "a", Levels: list}, {Name: "b", Levels: list}}, Measures: list, Views: [][]int{view, view[:2:2]}}
	s.Views[1] = []int{1, 0}
	l, m := both(t, s)
	values := []int{5, 5}
	f := api.Fact{Paths: [][]string{list, list}, Values: values}
	m = take(t, l, m, facts(f, f))
	told := l.Schema()
	apart(t, "Schema", told, list, view)
	list[0], values[0], view[0] = "x", 6, 0
	m.s = told
	m.dicts = [][][]string{{{"l"}, {"l", "m"}}, {{"l"}, {"l", "m"}}}
	m.parts = []part{{paths("l/m", "l/m"), one(5, 5)}, {paths("l/m", "l/m"), one(5, 5)}}
	check(t, "behind writing into the list", l, m)
	if told.Dims[0].Levels[0] != "l" || told.Views[0][0] != 1 {
		t.Errorf("the schema is %v", told)
	}
}

// R4: no two lists of answers share memory, and what is written into an answer changes no lattice and no other answer.
func TestAnswersAreTheirOwn(t *testing.T) {
	for _, s := range kinds() {
		for _, count := range []int{0, 1, 20} {
			mine := roomySchema(s)
			l, e := lattice.New(mine)
			if e != api.OK {
				t.Fatal(e)
			}
			m := none(s)
			all := []any{mine}
			for _, b := range batches(some(s, 22, count, 4, small()...), 5) {
				batch := roomyFacts(b)
				l.Apply(batch)
				m, _ = m.with(b)
				all = append(all, batch)
			}
			for range 2 {
				for view := range corners(s) {
					rows, _ := l.Rows(view)
					all = append(all, rows)
				}
				all = append(all, l.Schema(), l.Put(nil))
			}
			apart(t, "answers", all...)
			for _, answer := range all {
				spoil(answer)
				check(t, "behind spoiling an answer", l, m)
			}
			goOn(t, l, m)
		}
	}
}

// R4: lattices that are copied, or read, share no list with another one in what they tell.
func TestLatticesAreTheirOwn(t *testing.T) {
	for _, s := range kinds() {
		l, m := both(t, s, batches(some(s, 23, 20, 4, small()...), 5)...)
		b := l.Put(nil)
		r := wire.New(append(bytes.Clone(b), b...))
		family := []*lattice.Lattice{l, l.Copy(), l.Copy().Copy(), lattice.Read(r, s), lattice.Read(r, s)}
		var told []any
		for _, one := range family {
			for view := range corners(s) {
				rows, _ := one.Rows(view)
				told = append(told, rows)
			}
			told = append(told, one.Schema(), one.Put(nil))
		}
		apart(t, "answers of several", told...)
		for _, x := range told {
			spoil(x)
		}
		for i, one := range family {
			check(t, "behind spoiling what was told", one, m)
			apply(t, one, m, some(s, 24+i, 3, 6, small()...))
			for _, other := range family[i+1:] {
				check(t, "one of the others", other, m)
			}
		}
	}
}

// R5: the same is told each time, whatever order a map is gone through in.
func TestToldTheSame(t *testing.T) {
	const v = mostValue
	s := schemaOf(1, [][]int{{0, 1}, {1, 0}, {2, 1}}, 2, 2)
	for range 30 {
		l, m := both(t, s, batches(some(s, 41, 40, 5, small()...), 8)...)
		apply(t, l, m, some(s, 42, 8, 5, v, -v))
		refuse(t, l, m, api.ErrRange, facts(fact(v, "a/a", "a/a"), fact(v, "a/a", "b/b"), fact(v, "a/a", "c/c")))
		check(t, "again", lattice.Read(wire.New(l.Put(nil)), s), m)
	}
}
