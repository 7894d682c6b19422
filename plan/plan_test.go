package plan_test

import (
	"fmt"
	"slices"
	"testing"

	"tesseract/api"
	"tesseract/lattice"
	"tesseract/plan"
)

// P13.1, P13.2: the example of the document.
func TestExample(t *testing.T) {
	s := cube([]int{2}, []int{1}, []int{0})
	q := group([]int{1})
	checkCovering(t, s, q, []int{0, 1}, api.OK)
	l := filled(t, s, nil)
	checkChoose(t, l, q, 0, api.OK)
	add(t, l, facts("a/x", "a/y", "b/x"))
	if got := lens(l); !slices.Equal(got, []int{3, 2, 1}) {
		t.Errorf("the views have %v cells", got)
	}
	checkChoose(t, l, q, 1, api.OK)
}

// P13.1: the views that are told, case by case.
func TestCovering(t *testing.T) {
	one := cube([]int{3}, []int{1}, []int{0}, []int{2})
	two := cube([]int{2, 3}, []int{1, 3}, []int{2, 0}, []int{0, 0}, []int{2, 2}, []int{1, 1}, []int{0, 3})
	three := cube([]int{1, 2, 1}, []int{0, 2, 1}, []int{1, 1, 1}, []int{1, 2, 0}, []int{0, 2, 0})
	bare := cube([]int{2, 3})
	for _, x := range []struct {
		s    api.Schema
		q    api.Query
		want []int
	}{
		{one, group([]int{0}), []int{0, 1, 2, 3}},
		{one, group([]int{1}), []int{0, 1, 3}},
		{one, group([]int{2}), []int{0, 3}},
		{one, group([]int{3}), []int{0}},
		{one, group([]int{0}, by(0, 1)), []int{0, 1, 3}},
		{one, group([]int{0}, by(0, 3)), []int{0}},
		{one, group([]int{1}, by(0, 2)), []int{0, 3}},
		{one, group([]int{2}, by(0, 1)), []int{0, 3}},
		{one, group([]int{0}, by(0, 1), by(0, 2), by(0, 1)), []int{0, 3}},
		{one, group([]int{0}, by(0, 2), by(0, 1)), []int{0, 3}},
		{one, group([]int{0}, by(0, 1), by(0, 1), by(0, 3)), []int{0}},

		// one that needs nothing is covered by all, one that needs all by the base alone
		{two, group([]int{0, 0}), []int{0, 1, 2, 3, 4, 5, 6}},
		{two, group([]int{2, 3}), []int{0}},
		{two, group([]int{0, 0}, by(0, 2), by(1, 3)), []int{0}},
		{two, group([]int{2, 0}, by(1, 3)), []int{0}},
		{two, group([]int{0, 3}, by(0, 2)), []int{0}},

		// more of one Dim, less of another
		{two, group([]int{1, 0}), []int{0, 1, 2, 4, 5}},
		{two, group([]int{2, 0}), []int{0, 2, 4}},
		{two, group([]int{0, 1}), []int{0, 1, 4, 5, 6}},
		{two, group([]int{0, 2}), []int{0, 1, 4, 6}},
		{two, group([]int{0, 3}), []int{0, 1, 6}},
		{two, group([]int{1, 3}), []int{0, 1}},
		{two, group([]int{2, 1}), []int{0, 4}},
		{two, group([]int{1, 1}), []int{0, 1, 4, 5}},
		{two, group([]int{1, 0}, by(1, 1)), []int{0, 1, 4, 5}},
		{two, group([]int{1, 0}, by(0, 2)), []int{0, 2, 4}},
		{two, group([]int{1, 0}, by(0, 2), by(1, 2)), []int{0, 4}},
		{two, group([]int{1, 0}, by(1, 3), by(1, 1)), []int{0, 1}},
		{two, group([]int{0, 0}, by(1, 3)), []int{0, 1, 6}},
		{three, group([]int{0, 1, 0}), []int{0, 1, 2, 3, 4}},
		{three, group([]int{0, 1, 1}), []int{0, 1, 2}},
		{three, group([]int{1, 1, 0}), []int{0, 2, 3}},
		{three, group([]int{1, 0, 0}, by(1, 2)), []int{0, 3}},
		{three, group([]int{1, 0, 0}, by(1, 2), by(2, 1)), []int{0}},
		{three, group([]int{0, 0, 1}, by(1, 2), by(1, 1), by(2, 1)), []int{0, 1}},

		// without views there is the base alone
		{bare, group([]int{0, 0}), []int{0}},
		{bare, group([]int{2, 3}), []int{0}},
		{bare, group([]int{1, 0}, by(1, 2)), []int{0}},
		{cube([]int{1}), group([]int{0}), []int{0}},
		{cube([]int{3, 3, 3}), group([]int{3, 3, 3}, by(2, 3)), []int{0}},
	} {
		checkCovering(t, x.s, x.q, x.want, api.OK)
	}
}

// P13.1: how many Members a filter has, and which, is nothing to a view; how many measures there are neither.
func TestCoveringBesidesLevels(t *testing.T) {
	s := cube([]int{2, 3}, []int{1, 0}, []int{1, 2})
	for n := range mostMembers {
		q := group([]int{1, 0}, api.Filter{Dim: 1, Level: 2, Members: slices.Repeat(paths("z/9"), n+1)})
		checkCovering(t, s, q, []int{0, 2}, api.OK)
	}
	s.Measures = []string{"a", "b"}
	checkCovering(t, s, group([]int{1, 0}, filter(1, 2, "b/a a/b")), []int{0, 2}, api.OK)
}

// P13.1: of schemas of each number of Dims and of Views, and of all that a query may need: the numbers are rising, the base is among them, and there are all that cover and no other.
func TestCoveringOfAll(t *testing.T) {
	for _, s := range cubes() {
		for i, q := range queries(s, 1) {
			want := covering(s, q)
			got, e := plan.Covering(s, q)
			if !slices.Equal(got, want) || e != api.OK {
				t.Fatalf("Covering(%v, %v) is %v, %v, not %v", s, q, got, e, want)
			}
			if got[0] != 0 || !slices.IsSorted(got) || len(slices.Compact(slices.Clone(got))) < len(got) {
				t.Errorf("Covering(%v, %v) is %v", s, q, got)
			}
			if i%37 == 0 {
				checkCovering(t, s, q, want, api.OK)
			}
		}
	}
	s := cube([]int{1, 2}, roll(5).views([]int{1, 2}, mostViews)...)
	for _, q := range queries(s, mostFilters) {
		checkCovering(t, s, q, covering(s, q), api.OK)
	}
}

// P13.1: query.May's error, and no numbers: ErrSchema first.
func TestCoveringErrors(t *testing.T) {
	may := cube([]int{2, 3}, []int{1, 0}, []int{0, 0})
	fit := []api.Query{group([]int{1, 0}), group([]int{0, 0}, by(0, 1)), group([]int{2, 0}, by(1, 3), by(0, 2))}
	for _, q := range fit {
		checkCovering(t, may, q, covering(may, q), api.OK)
	}
	for _, q := range noQueries() {
		checkCovering(t, may, q, nil, api.ErrQuery)
	}
	for _, s := range append(noCubes(), api.Schema{}, cube(nil), cube([]int{1, 1, 1, 1})) {
		for _, q := range slices.Concat(fit, noQueries(), []api.Query{group([]int{0, 0, 0, 0})}) {
			checkCovering(t, s, q, nil, api.ErrSchema)
		}
	}
}

// P13.1: a query that may be for one schema may not be for another one.
func TestCoveringOfAnothersQuery(t *testing.T) {
	all := cubes()
	for _, s := range all {
		for _, other := range all {
			q := group(corners(other)[0])
			if fits := len(q.Group) == len(s.Dims) && !slices.ContainsFunc([]int{0, 1, 2}, func(i int) bool { return i < len(s.Dims) && q.Group[i] > len(s.Dims[i].Levels) }); fits {
				checkCovering(t, s, q, covering(s, q), api.OK)
			} else {
				checkCovering(t, s, q, nil, api.ErrQuery)
			}
		}
	}
}

// P13.2: ErrArg of nil, whatever is asked; else Covering's error of the lattice's schema.
func TestChooseErrors(t *testing.T) {
	s := cube([]int{2, 3}, []int{1, 0}, []int{0, 0})
	l := filled(t, s, facts("a/x a/b/c", "a/y b/b/c", "b/x b/b/d"))
	for _, q := range append(noQueries(), group([]int{1, 0}), group([]int{1, 0}, by(0, 2))) {
		if got, e := plan.Choose(nil, q); got != 0 || e != api.ErrArg {
			t.Errorf("Choose(nil, %v) is %d, %v", q, got, e)
		}
	}
	for _, x := range []*lattice.Lattice{l, filled(t, s, nil)} {
		for _, q := range noQueries() {
			checkChoose(t, x, q, 0, api.ErrQuery)
		}
		checkChoose(t, x, group([]int{0}), 0, api.ErrQuery)
		checkChoose(t, x, group([]int{0, 0, 0}), 0, api.ErrQuery)
	}
	checkChoose(t, l, group([]int{1, 0}), 1, api.OK)
}

// P13.2: a lattice that nobody has made has a schema that may not be.
func TestChooseOfUnmade(t *testing.T) {
	for _, q := range append(noQueries(), group([]int{1, 0})) {
		if got, e := plan.Choose(&lattice.Lattice{}, q); got != 0 || e != api.ErrSchema {
			t.Errorf("Choose of an unmade lattice, %v is %d, %v", q, got, e)
		}
	}
}

// P13.2: of an empty lattice all views have as few cells, so that the base is chosen.
func TestChooseOfEmpty(t *testing.T) {
	for _, s := range cubes() {
		l := filled(t, s, nil)
		for i, q := range queries(s, 1) {
			if got, e := plan.Choose(l, q); got != 0 || e != api.OK {
				t.Errorf("Choose(empty %v, %v) is %d, %v", s, q, got, e)
			}
			if i%97 == 0 {
				checkChoose(t, l, q, 0, api.OK)
			}
		}
	}
}

// P13.2: the fewest cells, whichever place they have among the views that cover; of several the least number.
func TestChoose(t *testing.T) {
	rows := facts("a/x p", "a/y p", "a/z p", "b/x p", "b/y q", "c/x q") // 6 cells; [1 1]: 4; [1 0]: 3; [0 1]: 2; [2 0]: 6; [0 0]: 1
	for _, x := range []struct {
		views [][]int
		q     api.Query
		want  int
	}{
		// the first one that covers, a middle one, the last one
		{[][]int{{0, 0}, {1, 0}, {0, 1}, {1, 1}}, group([]int{0, 0}), 1},
		{[][]int{{1, 0}, {0, 0}, {0, 1}, {1, 1}}, group([]int{0, 0}), 2},
		{[][]int{{1, 0}, {0, 1}, {0, 0}, {1, 1}}, group([]int{0, 0}), 3},
		{[][]int{{1, 1}, {0, 1}, {1, 0}, {0, 0}}, group([]int{0, 0}), 4},
		{[][]int{{0, 0}, {1, 0}, {0, 1}, {1, 1}}, group([]int{1, 0}), 2},
		{[][]int{{1, 1}, {0, 0}, {1, 0}, {2, 0}}, group([]int{1, 0}), 3},
		{[][]int{{1, 1}, {2, 0}, {0, 1}, {1, 0}}, group([]int{1, 0}), 4},
		{[][]int{{2, 0}, {1, 1}, {0, 1}, {0, 0}}, group([]int{1, 0}), 2},
		{[][]int{{0, 1}, {1, 1}, {2, 0}, {0, 0}}, group([]int{0, 0}, by(1, 1)), 1},
		{[][]int{{1, 1}, {0, 1}, {2, 0}, {0, 0}}, group([]int{0, 0}, by(1, 1)), 2},
		{[][]int{{1, 1}, {2, 0}, {0, 0}, {0, 1}}, group([]int{0, 0}, by(1, 1)), 4},

		// the base, where no other one covers, or none that has fewer cells
		{nil, group([]int{0, 0}), 0},
		{[][]int{{1, 1}, {0, 1}, {1, 0}, {0, 0}}, group([]int{2, 0}), 0},
		{[][]int{{1, 1}, {2, 0}, {1, 0}, {0, 0}}, group([]int{2, 0}), 0},
		{[][]int{{1, 1}, {2, 0}, {1, 0}, {0, 0}}, group([]int{2, 1}), 0},
		{[][]int{{2, 0}, {0, 1}}, group([]int{1, 0}), 0},

		// fewer cells, but it doesn't cover
		{[][]int{{0, 0}, {0, 1}, {1, 1}, {2, 0}}, group([]int{1, 0}), 3},
		{[][]int{{0, 0}, {1, 0}, {1, 1}}, group([]int{0, 0}, by(1, 1)), 3},
		{[][]int{{1, 0}, {0, 1}, {1, 1}}, group([]int{1, 0}, by(1, 1)), 3},
		{[][]int{{1, 0}, {0, 1}, {0, 0}}, group([]int{1, 1}), 0},
	} {
		s := cube([]int{2, 1}, x.views...)
		l := filled(t, s, rows)
		if model := choose(s, rows, x.q); model != x.want {
			t.Errorf("the test's own word on %v, %v is %d, not %d", x.views, x.q, model, x.want)
		}
		checkChoose(t, l, x.q, x.want, api.OK)
	}
}

// P13.2: of several views with as few cells the one with the least number, wherever they stand.
func TestChooseOfAsFew(t *testing.T) {
	same := facts("a/x p", "b/x q", "c/x r") // each corner with a level of one of the Dims has 3 cells
	for _, x := range []struct {
		views [][]int
		q     api.Query
		want  int
	}{
		{[][]int{{1, 0}, {0, 1}, {1, 1}}, group([]int{0, 0}), 0},
		{[][]int{{1, 0}, {0, 1}, {0, 0}, {1, 1}}, group([]int{0, 0}), 3},
		{[][]int{{1, 0}, {0, 1}, {1, 1}, {2, 0}}, group([]int{1, 0}), 0},
		{[][]int{{1, 0}, {0, 1}, {1, 1}, {2, 0}}, group([]int{0, 1}), 0},
	} {
		checkChoose(t, filled(t, cube([]int{2, 1}, x.views...), same), x.q, x.want, api.OK)
	}
	split := facts("a/x p", "a/y p", "b/x q", "b/y q", "b/z q") // 5 cells; [1 0], [0 1] and [1 1]: 2
	for _, x := range []struct {
		views [][]int
		q     api.Query
		want  int
	}{
		{[][]int{{1, 0}, {0, 1}, {1, 1}, {2, 0}}, group([]int{0, 0}), 1},
		{[][]int{{2, 0}, {1, 1}, {0, 1}, {1, 0}}, group([]int{0, 0}), 2},
		{[][]int{{2, 0}, {0, 1}, {1, 0}, {1, 1}}, group([]int{1, 0}), 3},
		{[][]int{{2, 0}, {1, 1}, {1, 0}, {0, 1}}, group([]int{1, 0}), 2},
		{[][]int{{1, 0}, {2, 0}, {1, 1}, {0, 1}}, group([]int{0, 1}), 3},
		{[][]int{{1, 0}, {2, 0}, {0, 1}, {1, 1}}, group([]int{0, 1}), 3},
		{[][]int{{1, 0}, {2, 0}, {0, 1}, {1, 1}}, group([]int{1, 1}), 4},
	} {
		checkChoose(t, filled(t, cube([]int{2, 1}, x.views...), split), x.q, x.want, api.OK)
	}
}

// P13.2: further batches change which view has the fewest cells; a batch that is refused does not.
func TestChooseAsFactsCome(t *testing.T) {
	s := cube([]int{1, 1, 1}, []int{1, 1, 0}, []int{1, 0, 1}, []int{0, 1, 1}, []int{1, 0, 0}, []int{0, 1, 0})
	l := filled(t, s, nil)
	first, second, nothing := group([]int{1, 0, 0}), group([]int{0, 1, 0}), group([]int{0, 0, 0})
	whole := group([]int{0, 0, 1})
	for _, x := range []struct {
		come                          []api.Fact
		counts                        []int
		first, second, nothing, whole int
	}{
		{nil, []int{0, 0, 0, 0, 0, 0}, 0, 0, 0, 0},
		{facts("a a a"), []int{1, 1, 1, 1, 1, 1}, 0, 0, 0, 0},
		{facts("a b a", "a c a"), []int{3, 3, 1, 3, 1, 3}, 2, 0, 2, 2},
		{facts("a a b", "a a c"), []int{5, 3, 3, 5, 1, 3}, 4, 1, 4, 2},
		{facts("b a b", "c a b"), []int{7, 5, 5, 5, 3, 3}, 4, 5, 4, 2},
		{facts("d a b"), []int{8, 6, 6, 5, 4, 3}, 4, 5, 5, 3},
		{facts("a d a", "a e a", "a f a", "a g a"), []int{12, 10, 6, 9, 4, 7}, 4, 5, 4, 2},
	} {
		add(t, l, x.come)
		if got := lens(l); !slices.Equal(got, x.counts) {
			t.Errorf("the views have %v cells, not %v", got, x.counts)
		}
		if l.Apply(facts("a a a", "a a")) != api.ErrFact {
			t.Error("a fact of two paths is put in")
		}
		checkChoose(t, l, first, x.first, api.OK)
		checkChoose(t, l, second, x.second, api.OK)
		checkChoose(t, l, nothing, x.nothing, api.OK)
		checkChoose(t, l, whole, x.whole, api.OK)
	}
}

// P13.2: many cells are compared as exactly as few.
func TestChooseOfMany(t *testing.T) {
	s := cube([]int{1, 1, 1}, []int{1, 1, 0}, []int{1, 0, 1}, []int{0, 1, 1})
	const names = mostPaths - 1
	var all []api.Fact
	for i := range names {
		for j := range names { // each two names of each two Dims come together once
			all = append(all, facts(fmt.Sprintf("n%d n%d n%d", i, j, (i+j)%names))...)
		}
	}
	l := filled(t, s, nil)
	for _, x := range []struct {
		come                []api.Fact
		counts              []int
		none, a, b, c, pair int
	}{
		{all, []int{1521, 1521, 1521, 1521}, 0, 0, 0, 0, 0},
		{facts("n0 n0 n1"), []int{1522, 1521, 1521, 1521}, 1, 1, 1, 2, 2},
		{facts("last n0 n0"), []int{1523, 1522, 1522, 1521}, 3, 1, 3, 3, 2},
		{facts("last n0 last", "n0 n1 last"), []int{1525, 1522, 1524, 1523}, 1, 1, 1, 3, 2},
	} {
		add(t, l, x.come)
		if got := lens(l); !slices.Equal(got, x.counts) {
			t.Errorf("the views have %v cells, not %v", got, x.counts)
		}
		checkChoose(t, l, group([]int{0, 0, 0}), x.none, api.OK)
		checkChoose(t, l, group([]int{1, 0, 0}), x.a, api.OK)
		checkChoose(t, l, group([]int{0, 1, 0}), x.b, api.OK)
		checkChoose(t, l, group([]int{0, 0, 1}), x.c, api.OK)
		checkChoose(t, l, group([]int{1, 0, 1}), x.pair, api.OK)
		checkChoose(t, l, group([]int{1, 1, 1}), 0, api.OK)
	}
}

// P13.2, P13.3: as the model says, of views of all sizes; no view that covers has fewer cells than the chosen one, and none with a lesser number as few.
func TestChooseOfAll(t *testing.T) {
	for i, s := range cubes() {
		d := roll(i)
		var come []api.Fact
		l := filled(t, s, nil)
		for _, names := range [][]int{{1, 2, 1}, {2, 1, 3}, {3, 2, 2}} {
			more := d.facts(s, mostFacts, names...)
			if errno := l.Apply(more); errno == api.OK {
				come = append(come, more...)
			}
			for j, q := range queries(s, 1) {
				want := choose(s, come, q)
				if got, e := plan.Choose(l, q); got != want || e != api.OK {
					t.Fatalf("Choose(%v with %v, %v) is %d, %v, not %d", s, lens(l), q, got, e, want)
				}
				counts := lens(l)
				for _, view := range covering(s, q) {
					if counts[view] < counts[want] || counts[view] == counts[want] && view < want {
						t.Errorf("%v, %v: view %d of %v is better than %d", s, q, view, counts, want)
					}
				}
				if j%211 == 0 {
					checkChoose(t, l, q, want, api.OK)
				}
			}
		}
	}
}

// P13.2: what is chosen hangs on how many cells there are, not on which facts came, nor on the order in which they came.
func TestChooseByCellsAlone(t *testing.T) {
	s := cube([]int{2, 3}, []int{1, 3}, []int{2, 0}, []int{0, 1}, []int{1, 1}, []int{0, 0})
	for seed := range 10 {
		all := roll(seed).facts(s, 12, 3, 2)
		turned := slices.Clone(all)
		slices.Reverse(turned)
		l, again, doubled := filled(t, s, all), filled(t, s, turned), filled(t, s, slices.Concat(turned, all, turned))
		for _, q := range queries(s, 1) {
			want, errno := plan.Choose(l, q)
			for _, x := range []*lattice.Lattice{again, doubled} {
				if got, e := plan.Choose(x, q); got != want || e != errno {
					t.Errorf("Choose(.., %v) is %d, %v, not %d, %v", q, got, e, want, errno)
				}
			}
		}
	}
}

// P13.3: the base always covers; what needs less is covered by all views that covered it before, so that what is chosen has no more cells.
func TestLess(t *testing.T) {
	for i, s := range cubes() {
		l := filled(t, s, roll(i).facts(s, 4, 2, 2, 2))
		counts := lens(l)
		for _, q := range queries(s, 1) {
			before, e := plan.Covering(s, q)
			if e != api.OK || before[0] != 0 {
				t.Fatalf("Covering(%v, %v) is %v, %v", s, q, before, e)
			}
			chosen, _ := plan.Choose(l, q)
			for _, less := range lesser(q) {
				after, e := plan.Covering(s, less)
				if e != api.OK || !within(before, after) {
					t.Fatalf("Covering of %v is %v, %v; of %v it is %v", q, before, e, less, after)
				}
				if now, _ := plan.Choose(l, less); counts[now] > counts[chosen] {
					t.Errorf("Choose of %v is %d, of %v it is %d, of %v cells", q, chosen, less, now, counts)
				}
			}
		}
	}
}

// lesser is queries that need less: with a level of the Group put to 0, or to one less, or without the last filter.
func lesser(q api.Query) []api.Query {
	var l []api.Query
	for i, level := range q.Group {
		for _, n := range []int{0, max(level-1, 0)} {
			g := slices.Clone(q.Group)
			g[i] = n
			l = append(l, group(g, q.Filters...))
		}
	}
	if len(q.Filters) > 0 {
		l = append(l, group(q.Group, q.Filters[:len(q.Filters)-1]...))
	}
	return l
}

// within tells whether all of a list are in another one.
func within(l, other []int) bool {
	for _, n := range l {
		if !slices.Contains(other, n) {
			return false
		}
	}
	return true
}

// R4: lists that stand in one memory, the same ones at several places, are taken as they are.
func TestOfShared(t *testing.T) {
	names := []string{"a", "b", "c", "d"}
	numbers := []int{1, 0, 2, 1, 0}
	s := api.Schema{Dims: []api.Dim{{Name: "a", Levels: names[:2]}, {Name: "b", Levels: names[1:3]}}, Measures: names[:1], Views: [][]int{numbers[0:2], numbers[1:3], numbers[2:4]}}
	members := [][]string{names[:1], names[:1], names[1:2]}
	q := api.Query{Group: numbers[:2], Filters: []api.Filter{{Dim: 0, Level: 1, Members: members[:2]}, {Dim: 0, Level: 1, Members: members[1:]}}}
	want := []int{0, 1, 3}
	for range 2 {
		got, e := plan.Covering(s, q)
		if !slices.Equal(got, want) || e != api.OK {
			t.Errorf("Covering(%v, %v) is %v, %v, not %v", s, q, got, e, want)
		}
		spoil(got)
		spoil(append(got, 5))
	}
	if !slices.Equal(numbers, []int{1, 0, 2, 1, 0}) || !slices.Equal(names, []string{"a", "b", "c", "d"}) {
		t.Errorf("what was handed in is %v and %v now", numbers, names)
	}
	l := filled(t, s, facts("a/x p/x", "a/x p/y", "b/y q/x"))
	checkChoose(t, l, q, 1, api.OK)
	numbers[0] = 2 // the lattice has a schema of its own, the query has another Group now
	if got, e := plan.Choose(l, q); got != 3 || e != api.OK {
		t.Errorf("Choose is %d, %v, once the Group is 2, 0", got, e)
	}
}

// R4: nil and empty lists are one.
func TestOfNothing(t *testing.T) {
	s := cube([]int{2})
	s.Views = [][]int{}
	checkCovering(t, s, api.Query{Group: []int{0}, Filters: []api.Filter{}}, []int{0}, api.OK)
	checkChoose(t, filled(t, s, facts("a/x")), api.Query{Group: []int{0}, Filters: []api.Filter{}}, 0, api.OK)
	checkCovering(t, s, api.Query{Group: []int{}}, nil, api.ErrQuery)
	checkCovering(t, api.Schema{Dims: []api.Dim{}, Measures: []string{}, Views: [][]int{}}, api.Query{Group: []int{}}, nil, api.ErrSchema)
	checkCovering(t, s, api.Query{Group: []int{0}, Filters: []api.Filter{{Level: 1, Members: [][]string{}}}}, nil, api.ErrQuery)
}
