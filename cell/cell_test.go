package cell_test

import (
	"math"
	"math/big"
	"slices"
	"testing"

	"tesseract/api"
	"tesseract/cell"
)

const (
	mostValue = 1 << 61
	mostSum   = 1 << 62
	mostCount = 1 << 40
)

// noise is numbers of all sizes and both signs without a pattern, the same at each call.
func noise(seed, count int) []int {
	l := make([]int, count)
	x := uint64(seed)*0x9E3779B97F4A7C15 + 12345
	for i := range l {
		x = x*6364136223846793005 + 1442695040888963407
		y := x
		y ^= y >> 29
		y *= 0xBF58476D1CE4E5B9
		l[i] = int(y^y>>32) >> (x >> 58)
	}
	return l
}

// someValues is lists of so many values, without a pattern.
func someValues(seed, measures, count int) [][]int {
	numbers := noise(seed, measures*count)
	l := make([][]int, count)
	for i := range l {
		l[i] = make([]int, measures)
		for j := range l[i] {
			l[i][j] = numbers[i*measures+j] >> 2
		}
	}
	return l
}

// of is a cell of one measure.
func of(count, sum, least, most int) api.Cell {
	return api.Cell{Count: count, Sums: []int{sum}, Mins: []int{least}, Maxs: []int{most}}
}

// of2 is a cell of two measures.
func of2(count, sum, least, most, sum2, least2, most2 int) api.Cell {
	return api.Cell{Count: count, Sums: []int{sum, sum2}, Mins: []int{least, least2}, Maxs: []int{most, most2}}
}

// empty is the empty cell of so many measures.
func empty(measures int) api.Cell {
	return api.Cell{Sums: make([]int, measures), Mins: make([]int, measures), Maxs: make([]int, measures)}
}

// same tells whether two cells are the same: nil and empty lists are one.
func same(a, b api.Cell) bool {
	return a.Count == b.Count && slices.Equal(a.Sums, b.Sums) && slices.Equal(a.Mins, b.Mins) && slices.Equal(a.Maxs, b.Maxs)
}

// copied is the same cell with lists of its own.
func copied(c api.Cell) api.Cell {
	return api.Cell{Count: c.Count, Sums: slices.Clone(c.Sums), Mins: slices.Clone(c.Mins), Maxs: slices.Clone(c.Maxs)}
}

// copiedAll is the same cells with lists of their own.
func copiedAll(l []api.Cell) []api.Cell {
	out := make([]api.Cell, len(l))
	for i, c := range l {
		out[i] = copied(c)
	}
	return out
}

// may is whether a cell may be, by the words of the document, one by one.
func may(c api.Cell) bool {
	m := len(c.Sums)
	if m != len(c.Mins) || m != len(c.Maxs) || m > 2 {
		return false
	}
	if same(c, empty(m)) {
		return true
	}
	ok := c.Count >= 1 && c.Count <= 1099511627776
	for i := range c.Sums {
		sum, least, most := c.Sums[i], c.Mins[i], c.Maxs[i]
		ok = ok && least <= most && least >= -2305843009213693952 && most <= 2305843009213693952
		ok = ok && sum >= -4611686018427387904 && sum <= 4611686018427387904
		ok = ok && (c.Count != 1 || sum == least && sum == most)
	}
	return ok
}

// add adds a number to one of the library's without a bound.
func add(x *big.Int, n int) { x.Add(x, big.NewInt(int64(n))) }

// wanted is what Sum is to answer.
func wanted(l []api.Cell) (api.Cell, api.Errno) {
	for _, c := range l {
		if !may(c) || len(c.Sums) != len(l[0].Sums) {
			return api.Cell{}, api.ErrArg
		}
	}
	if len(l) == 0 {
		return api.Cell{}, api.ErrArg
	}
	m := len(l[0].Sums)
	out, count, sums := empty(m), new(big.Int), []*big.Int{new(big.Int), new(big.Int)}
	for _, c := range l {
		if c.Count == 0 {
			continue
		}
		for i := range c.Sums {
			add(sums[i], c.Sums[i])
			if count.Sign() == 0 || c.Mins[i] < out.Mins[i] {
				out.Mins[i] = c.Mins[i]
			}
			if count.Sign() == 0 || c.Maxs[i] > out.Maxs[i] {
				out.Maxs[i] = c.Maxs[i]
			}
		}
		add(count, c.Count)
	}
	if count.Cmp(big.NewInt(mostCount)) > 0 {
		return api.Cell{}, api.ErrRange
	}
	out.Count = int(count.Int64())
	for i := range m {
		if sums[i].CmpAbs(big.NewInt(mostSum)) > 0 {
			return api.Cell{}, api.ErrRange
		}
		out.Sums[i] = int(sums[i].Int64())
	}
	return out, api.OK
}

// foldWanted is what Fold is to answer.
func foldWanted(measures int, l [][]int) (api.Cell, api.Errno) {
	if measures < 0 || measures > 2 {
		return api.Cell{}, api.ErrArg
	}
	cells := []api.Cell{empty(measures)}
	for _, v := range l {
		cells = append(cells, api.Cell{Count: 1, Sums: v, Mins: v, Maxs: v})
	}
	return wanted(cells)
}

// checkCell holds an answer against what is wanted.
func checkCell(t *testing.T, what string, got api.Cell, e api.Errno, want api.Cell, errno api.Errno) {
	t.Helper()
	if !same(got, want) || e != errno {
		t.Errorf("%s is %v, %v, not %v, %v", what, got, e, want, errno)
	}
	if e != api.OK && (got.Sums != nil || got.Mins != nil || got.Maxs != nil) {
		t.Errorf("%s: beside an error a list is not nil", what)
	}
	if e == api.OK && !may(got) {
		t.Errorf("%s is %v, which may not be", what, got)
	}
}

// checkMay asks May, and holds the answer against what is wanted.
func checkMay(t *testing.T, c api.Cell, want bool) {
	t.Helper()
	before := copied(c)
	if got := cell.May(c); got != want {
		t.Errorf("May(%v) is %v", c, got)
	}
	if !same(c, before) {
		t.Errorf("May changed %v to %v", before, c)
	}
}

// checkMerge asks Merge in both orders, and holds the answers against what is wanted, and the cells against what they were.
func checkMerge(t *testing.T, a, b, want api.Cell, errno api.Errno) {
	t.Helper()
	before := copiedAll([]api.Cell{a, b})
	got, e := cell.Merge(a, b)
	checkCell(t, "Merge", got, e, want, errno)
	got, e = cell.Merge(b, a)
	checkCell(t, "Merge, the other way round", got, e, want, errno)
	if !same(a, before[0]) || !same(b, before[1]) {
		t.Errorf("Merge changed %v to %v and %v", before, a, b)
	}
}

// checkFold asks Fold, and holds the answer against what is wanted, and the values against what they were.
func checkFold(t *testing.T, measures int, l [][]int, want api.Cell, errno api.Errno) {
	t.Helper()
	var before [][]int
	for _, v := range l {
		before = append(before, slices.Clone(v))
	}
	got, e := cell.Fold(measures, l)
	checkCell(t, "Fold", got, e, want, errno)
	for i, v := range before {
		if !slices.Equal(v, l[i]) {
			t.Errorf("Fold changed %v to %v", v, l[i])
		}
	}
}

// checkSum asks Sum, and holds the answer against what is wanted, and the cells against what they were.
func checkSum(t *testing.T, l []api.Cell, want api.Cell, errno api.Errno) {
	t.Helper()
	before := copiedAll(l)
	got, e := cell.Sum(l)
	checkCell(t, "Sum", got, e, want, errno)
	if !slices.EqualFunc(l, before, same) {
		t.Errorf("Sum changed %v to %v", before, l)
	}
}

// fold is the fold of values that may be folded.
func fold(t *testing.T, measures int, l ...[]int) api.Cell {
	t.Helper()
	c, e := cell.Fold(measures, l)
	if e != api.OK {
		t.Fatalf("Fold of %v: %v", l, e)
	}
	return c
}

// goodCells is cells of so many measures that may be: ordinary ones, and at the edges.
func goodCells(measures int) []api.Cell {
	ones := []api.Cell{
		of(0, 0, 0, 0), of(1, 5, 5, 5), of(1, -1, -1, -1), of(1, 0, 0, 0), of(1, mostValue, mostValue, mostValue), of(1, -mostValue, -mostValue, -mostValue),
		of(2, 4, -1, 5), of(2, 0, 0, 0), of(2, 100, 3, 4), of(7, -30, -9, -2), of(2, mostSum, mostValue, mostValue), of(3, -mostSum, -mostValue, mostValue),
		of(mostCount, 0, -1, 1), of(mostCount-1, mostSum-1, 0, mostValue), of(mostCount/2, -mostSum+1, -mostValue, 0), of(2, 1-mostSum, -mostValue, -1), of(9, 1, 1, 1),
	}
	if measures == 1 {
		return ones
	}
	var out []api.Cell
	for _, a := range ones {
		if measures == 0 {
			out = append(out, api.Cell{Count: a.Count})
			continue
		}
		for _, b := range ones {
			c := of2(a.Count, a.Sums[0], a.Mins[0], a.Maxs[0], b.Sums[0], b.Mins[0], b.Maxs[0])
			if may(c) {
				out = append(out, c)
			}
		}
	}
	return out
}

// badCells is cells that may not be, each for one reason.
func badCells() []api.Cell {
	one, two, three := []int{1}, []int{1, 1}, []int{1, 1, 1}
	return []api.Cell{
		{Count: -1}, {Count: math.MinInt}, {Count: mostCount + 1}, {Count: math.MaxInt},
		{Count: 1, Sums: one}, {Count: 1, Mins: one}, {Count: 1, Maxs: one}, {Count: 1, Sums: one, Mins: one}, {Count: 1, Sums: one, Maxs: one}, {Count: 1, Mins: one, Maxs: one},
		{Count: 1, Sums: two, Mins: one, Maxs: one}, {Count: 1, Sums: one, Mins: two, Maxs: one}, {Count: 1, Sums: one, Mins: one, Maxs: two}, {Count: 1, Sums: one, Mins: two, Maxs: two},
		{Count: 1, Sums: three, Mins: three, Maxs: three}, {Count: 1, Sums: two, Mins: three, Maxs: three}, {Count: 1, Sums: three, Mins: two, Maxs: two}, empty(3), {Sums: []int{0}}, {Mins: []int{0}, Maxs: []int{0}},
		of(0, 1, 0, 0), of(0, 0, 1, 0), of(0, 0, 0, 1), of(0, -1, 0, 0), of(0, 0, -1, 0), of(0, 0, 0, -1), of(0, 1, 1, 1), of2(0, 0, 0, 0, 0, 0, 1), of2(0, 0, 0, 0, 1, 0, 0),
		of(1, 1, 1, 2), of(1, 1, 0, 1), of(1, 2, 1, 1), of(1, 1, 2, 2), of(1, 3, 2, 1), of2(1, 1, 1, 1, 1, 1, 2), of2(1, 1, 2, 1, 1, 1, 1),
		of(2, 1, 2, 1), of2(2, 1, 1, 1, 1, 1, 0), of2(2, 1, 1, 0, 1, 1, 1), of(-1, 1, 1, 1), of(mostCount+1, 1, 1, 1), of2(math.MaxInt, 1, 1, 1, 1, 1, 1),
		of(2, mostSum+1, 1, 1), of(2, -mostSum-1, 1, 1), of(2, 1, 1, mostValue+1), of(2, 1, -mostValue-1, 1), of(2, 1, mostValue+1, mostValue+1), of(2, 1, -mostValue-1, -mostValue-1),
		of(1, mostValue+1, mostValue+1, mostValue+1), of(1, -mostValue-1, -mostValue-1, -mostValue-1), of(1, mostSum, mostSum, mostSum), of2(2, 1, 1, 1, mostSum+1, 1, 1),
		of(2, math.MaxInt, 1, 1), of(2, math.MinInt, 1, 1), of(2, 1, math.MinInt, 1), of(2, 1, 1, math.MaxInt), of(2, 1, math.MinInt, math.MaxInt), of(1, math.MinInt, math.MinInt, math.MinInt), of(1, math.MaxInt, math.MaxInt, math.MaxInt),
	}
}

// P5.1: the empty cell, of as many measures as are asked for and may be; its lists are its own.
func TestEmpty(t *testing.T) {
	for _, x := range []struct{ asked, want int }{{math.MinInt, 0}, {-2, 0}, {-1, 0}, {0, 0}, {1, 1}, {2, 2}, {3, 2}, {4, 2}, {math.MaxInt, 2}} {
		for range 2 {
			c := cell.Empty(x.asked)
			if !same(c, empty(x.want)) {
				t.Errorf("Empty(%d) is %v", x.asked, c)
			}
			checkMay(t, c, true)
			checkOwn(t, c)
		}
	}
}

// checkOwn writes into the lists of an answer, their spare room too, and looks whether each is one of its own.
func checkOwn(t *testing.T, c api.Cell) {
	t.Helper()
	lists := [][]int{c.Sums, c.Mins, c.Maxs}
	for i, l := range lists {
		l = l[:cap(l)]
		for j := range l {
			l[j] = 1000 + i
		}
	}
	for i, l := range lists {
		for _, n := range l {
			if n != 1000+i {
				t.Errorf("two lists of an answer are one")
			}
		}
	}
}

// P5.1: ordinary cells that may be, such as may not, and each edge of each number.
func TestMay(t *testing.T) {
	for measures := range 3 {
		for _, c := range goodCells(measures) {
			checkMay(t, c, true)
		}
	}
	for _, c := range badCells() {
		checkMay(t, c, false)
	}
}

// someNumbers is numbers at the edges of what a cell may have.
func someNumbers() []int {
	l := []int{math.MinInt, math.MinInt + 1, math.MaxInt, -2, -1, 0, 1, 2}
	for _, n := range []int{mostValue, mostSum} {
		l = append(l, -n-1, -n, -n+1, n-1, n, n+1)
	}
	return l
}

// P5.1: all numbers at the edges, each with each.
func TestMayOfAll(t *testing.T) {
	counts := []int{math.MinInt, -mostCount, -1, 0, 1, 2, 3, mostCount - 1, mostCount, mostCount + 1, math.MaxInt}
	for _, count := range counts {
		checkMay(t, api.Cell{Count: count}, count >= 0 && count <= mostCount)
		for _, sum := range someNumbers() {
			for _, least := range someNumbers() {
				for _, most := range someNumbers() {
					c := of(count, sum, least, most)
					checkMay(t, c, may(c))
					for _, d := range []api.Cell{of2(count, sum, least, most, 0, 0, 0), of2(count, 1, 1, 1, sum, least, most)} {
						checkMay(t, d, may(d))
					}
				}
			}
		}
	}
}

// P5.1: the three lists have the same length, of at most two measures.
func TestMayOfLengths(t *testing.T) {
	for a := range 5 {
		for b := range 5 {
			for c := range 5 {
				for count := range 3 {
					checkMay(t, api.Cell{Count: count, Sums: make([]int, a), Mins: make([]int, b), Maxs: make([]int, c)}, a == b && b == c && a <= 2)
				}
			}
		}
	}
}

// P5.2: the examples, and what is together by hand.
func TestMerge(t *testing.T) {
	for _, x := range []struct {
		a, b, want api.Cell
		errno      api.Errno
	}{
		{of(1, 5, 5, 5), of(1, -1, -1, -1), of(2, 4, -1, 5), api.OK},
		{of(2, 4, -1, 5), of(1, 9, 9, 9), of(3, 13, -1, 9), api.OK},
		{of(1, 7, 7, 7), of(1, 7, 7, 7), of(2, 14, 7, 7), api.OK},
		{of(2, -9, -5, -4), of(3, -6, -3, -1), of(5, -15, -5, -1), api.OK},
		{of2(2, 4, -1, 5, 100, 50, 50), of2(1, 9, 9, 9, 3, 3, 3), of2(3, 13, -1, 9, 103, 3, 50), api.OK},
		{api.Cell{Count: 3}, api.Cell{Count: 4}, api.Cell{Count: 7}, api.OK},
		{api.Cell{Count: mostCount - 1}, api.Cell{Count: 1}, api.Cell{Count: mostCount}, api.OK},
		{api.Cell{Count: mostCount}, api.Cell{Count: 1}, api.Cell{}, api.ErrRange},
		{api.Cell{Count: mostCount}, api.Cell{Count: mostCount}, api.Cell{}, api.ErrRange},
		{of(mostCount, 0, -1, 1), of(1, 1, 1, 1), api.Cell{}, api.ErrRange},
		{of(2, mostSum-1, 0, mostValue), of(1, 1, 1, 1), of(3, mostSum, 0, mostValue), api.OK},
		{of(2, mostSum-1, 0, mostValue), of(1, 2, 2, 2), api.Cell{}, api.ErrRange},
		{of(2, 1-mostSum, -mostValue, 0), of(1, -1, -1, -1), of(3, -mostSum, -mostValue, 0), api.OK},
		{of(2, 1-mostSum, -mostValue, 0), of(1, -2, -2, -2), api.Cell{}, api.ErrRange},
		{of(2, mostSum, mostValue, mostValue), of(2, mostSum, mostValue, mostValue), api.Cell{}, api.ErrRange},
		{of(2, -mostSum, -mostValue, -mostValue), of(2, -mostSum, -mostValue, -mostValue), api.Cell{}, api.ErrRange},
		{of(2, mostSum, mostValue, mostValue), of(2, -mostSum, -mostValue, -mostValue), of(4, 0, -mostValue, mostValue), api.OK},
		{of(1, mostValue, mostValue, mostValue), of(1, mostValue, mostValue, mostValue), of(2, mostSum, mostValue, mostValue), api.OK},
		{of2(2, 1, 0, 1, mostSum, 1, 1), of2(2, 1, 0, 1, 1, 0, 1), api.Cell{}, api.ErrRange},
	} {
		checkMerge(t, x.a, x.b, x.want, x.errno)
	}
}

// P5.2: with the empty cell on either side it is the other one, also where that stands at each edge.
func TestMergeWithEmpty(t *testing.T) {
	for measures := range 3 {
		for _, c := range goodCells(measures) {
			checkMerge(t, c, empty(measures), c, api.OK)
			checkMerge(t, c, cell.Empty(measures), c, api.OK)
		}
		for other := range 3 {
			want, errno := empty(measures), api.OK
			if other != measures {
				want, errno = api.Cell{}, api.ErrArg
			}
			checkMerge(t, cell.Empty(measures), cell.Empty(other), want, errno)
		}
	}
}

// P5.2: all that may be with each other, of the same number of measures and of others.
func TestMergeOfAll(t *testing.T) {
	var l []api.Cell
	for measures := range 3 {
		l = append(l, goodCells(measures)...)
	}
	for _, a := range l {
		for _, b := range l {
			want, errno := wanted([]api.Cell{a, b})
			if len(a.Sums) != len(b.Sums) && errno != api.ErrArg {
				t.Fatalf("%v, %v: %v", a, b, errno)
			}
			checkMerge(t, a, b, want, errno)
		}
	}
}

// P5.2: one that may not be, as the first and as the second, also where the sum were too great.
func TestMergeOfWrong(t *testing.T) {
	for _, bad := range badCells() {
		for measures := range 4 {
			checkMerge(t, bad, empty(measures), api.Cell{}, api.ErrArg)
		}
		checkMerge(t, bad, bad, api.Cell{}, api.ErrArg)
		checkMerge(t, bad, of(2, mostSum, 1, 1), api.Cell{}, api.ErrArg)
		checkMerge(t, bad, of2(3, 1, 0, 1, 1, 0, 1), api.Cell{}, api.ErrArg)
		checkMerge(t, bad, api.Cell{Count: mostCount}, api.Cell{}, api.ErrArg)
	}
}

// P5.3: the examples, and folds by hand.
func TestFold(t *testing.T) {
	for _, x := range []struct {
		measures int
		l        [][]int
		want     api.Cell
		errno    api.Errno
	}{
		{1, [][]int{{3}, {-5}}, of(2, -2, -5, 3), api.OK},
		{1, [][]int{{5}, {-1}}, of(2, 4, -1, 5), api.OK},
		{1, [][]int{{7}}, of(1, 7, 7, 7), api.OK},
		{1, [][]int{{0}}, of(1, 0, 0, 0), api.OK},
		{1, [][]int{{0}, {0}, {0}}, of(3, 0, 0, 0), api.OK},
		{1, [][]int{{4}, {9}, {6}}, of(3, 19, 4, 9), api.OK},
		{1, [][]int{{-4}, {-9}, {-6}}, of(3, -19, -9, -4), api.OK},
		{2, [][]int{{1, -8}, {2, 0}, {-3, 5}}, of2(3, 0, -3, 2, -3, -8, 5), api.OK},
		{2, [][]int{{mostValue, -mostValue}}, of2(1, mostValue, mostValue, mostValue, -mostValue, -mostValue, -mostValue), api.OK},
		{0, nil, empty(0), api.OK}, {1, nil, empty(1), api.OK}, {2, [][]int{}, empty(2), api.OK},
		{0, [][]int{nil}, api.Cell{Count: 1}, api.OK}, {0, [][]int{{}, nil, {}}, api.Cell{Count: 3}, api.OK},
	} {
		checkFold(t, x.measures, x.l, x.want, x.errno)
	}
}

// P5.3: measures that may not be, and lists that are no values of so many, wherever they stand.
func TestFoldOfWrong(t *testing.T) {
	for _, measures := range []int{math.MinInt, -2, -1, 3, 4, math.MaxInt} {
		for _, l := range [][][]int{nil, {}, {nil}, {{1}}, {{1, 2, 3}}, {{1, 2, 3, 4}}} {
			checkFold(t, measures, l, api.Cell{}, api.ErrArg)
		}
	}
	good := [][]int{{}, {1}, {1, 1}}
	for measures := range 3 {
		wrong := [][]int{{1, 1, 1}}
		for other := range 3 {
			if other != measures {
				wrong = append(wrong, good[other])
			}
		}
		for place := range measures {
			for _, n := range []int{math.MinInt, -mostSum, -mostValue - 1, mostValue + 1, mostSum, math.MaxInt} {
				v := slices.Clone(good[measures])
				v[place] = n
				wrong = append(wrong, v)
			}
		}
		for _, v := range wrong {
			for place := range 4 {
				l := slices.Insert(slices.Repeat([][]int{good[measures]}, 3), place, v)
				checkFold(t, measures, l, api.Cell{}, api.ErrArg)
			}
			checkFold(t, measures, [][]int{v}, api.Cell{}, api.ErrArg)
		}
	}
	tooMuch := slices.Repeat([][]int{{mostValue}}, 3)
	checkFold(t, 1, append(tooMuch, []int{mostValue + 1}), api.Cell{}, api.ErrArg)
	checkFold(t, 1, append(tooMuch, nil), api.Cell{}, api.ErrArg)
}

// P5.3: the sum at its edges, and beyond, where an int wraps round, and where a wide number ends; and sums of which a part alone is too great.
func TestFoldAtTheEnds(t *testing.T) {
	up, down := []int{mostValue}, []int{-mostValue}
	for _, x := range []struct {
		ups, downs int
		more       [][]int
		want       api.Cell
		errno      api.Errno
	}{
		{2, 0, nil, of(2, mostSum, mostValue, mostValue), api.OK},
		{2, 0, [][]int{{1}}, api.Cell{}, api.ErrRange},
		{2, 0, [][]int{{1}, {-1}}, of(4, mostSum, -1, mostValue), api.OK},
		{3, 0, nil, api.Cell{}, api.ErrRange},
		{3, 1, nil, of(4, mostSum, -mostValue, mostValue), api.OK},
		{4, 0, nil, api.Cell{}, api.ErrRange},
		{8, 0, nil, api.Cell{}, api.ErrRange},
		{8, 8, [][]int{{-3}}, of(17, -3, -mostValue, mostValue), api.OK},
		{0, 2, nil, of(2, -mostSum, -mostValue, -mostValue), api.OK},
		{0, 2, [][]int{{-1}}, api.Cell{}, api.ErrRange},
		{0, 3, nil, api.Cell{}, api.ErrRange},
		{0, 4, nil, api.Cell{}, api.ErrRange},
		{0, 5, nil, api.Cell{}, api.ErrRange},
		{0, 8, nil, api.Cell{}, api.ErrRange},
		{1, 3, [][]int{{1}}, of(5, 1-mostSum, -mostValue, mostValue), api.OK},
		{4096, 0, nil, api.Cell{}, api.ErrRange},
		{4096, 4095, nil, of(8191, mostValue, -mostValue, mostValue), api.OK},
		{5000, 5002, nil, of(10002, -mostSum, -mostValue, mostValue), api.OK},
		{5000, 5003, nil, api.Cell{}, api.ErrRange},
	} {
		l := slices.Concat(slices.Repeat([][]int{up}, x.ups), x.more, slices.Repeat([][]int{down}, x.downs))
		checkFold(t, 1, l, x.want, x.errno)
		slices.Reverse(l)
		checkFold(t, 1, l, x.want, x.errno)
	}
	checkFold(t, 2, [][]int{{1, mostValue}, {1, mostValue}, {1, 1}}, api.Cell{}, api.ErrRange)
	checkFold(t, 2, [][]int{{mostValue, 1}, {mostValue, 1}, {1, 1}}, api.Cell{}, api.ErrRange)
}

// P5.3: values of all sizes without a pattern, against the library's numbers.
func TestFoldOfMany(t *testing.T) {
	for seed := range 60 {
		for measures := range 3 {
			l := someValues(seed, measures, seed*3)
			want, errno := foldWanted(measures, l)
			checkFold(t, measures, l, want, errno)
		}
	}
}

// P5.4: no cell, one, and some by hand; empty ones alone, and among others, whose noughts are no values.
func TestSum(t *testing.T) {
	none := empty(1)
	for _, x := range []struct {
		l     []api.Cell
		want  api.Cell
		errno api.Errno
	}{
		{nil, api.Cell{}, api.ErrArg}, {[]api.Cell{}, api.Cell{}, api.ErrArg},
		{[]api.Cell{{}}, api.Cell{}, api.OK}, {[]api.Cell{none}, none, api.OK}, {[]api.Cell{empty(2), empty(2), empty(2)}, empty(2), api.OK},
		{[]api.Cell{none, none, of(2, 9, 4, 5), none}, of(2, 9, 4, 5), api.OK},
		{[]api.Cell{of(2, -9, -5, -4), none}, of(2, -9, -5, -4), api.OK},
		{[]api.Cell{none, of(1, 3, 3, 3), none, of(1, 8, 8, 8)}, of(2, 11, 3, 8), api.OK},
		{[]api.Cell{of(1, 5, 5, 5), of(1, -1, -1, -1), of(2, 4, -1, 5)}, of(4, 8, -1, 5), api.OK},
		{[]api.Cell{of(1, -7, -7, -7), of(1, -5, -5, -5), of(3, -9, -4, -1)}, of(5, -21, -7, -1), api.OK},
		{[]api.Cell{of2(1, 1, 1, 1, -2, -2, -2), of2(2, 5, 2, 3, -9, -6, -3), empty(2)}, of2(3, 6, 1, 3, -11, -6, -2), api.OK},
		{[]api.Cell{{Count: 1}, {Count: 5}, {}}, api.Cell{Count: 6}, api.OK},
		{[]api.Cell{none, empty(2)}, api.Cell{}, api.ErrArg}, {[]api.Cell{{}, {Count: 2}, none}, api.Cell{}, api.ErrArg},
		{[]api.Cell{of(1, 1, 1, 1), of(1, 1, 1, 1), empty(2)}, api.Cell{}, api.ErrArg}, {[]api.Cell{empty(2), of(1, 1, 1, 1)}, api.Cell{}, api.ErrArg},
	} {
		checkSum(t, x.l, x.want, x.errno)
	}
	for measures := range 3 {
		for _, c := range goodCells(measures) {
			checkSum(t, []api.Cell{c}, c, api.OK)
		}
	}
}

// P5.4: one that may not be, alone and at any place, also where the sum were too great.
func TestSumOfWrong(t *testing.T) {
	for _, bad := range badCells() {
		checkSum(t, []api.Cell{bad}, api.Cell{}, api.ErrArg)
		for measures := range 3 {
			for _, c := range []api.Cell{empty(measures), fold(t, measures, make([]int, measures)), goodCells(measures)[12]} {
				for place := range 4 {
					checkSum(t, slices.Insert(slices.Repeat([]api.Cell{c}, 3), place, bad), api.Cell{}, api.ErrArg)
				}
			}
		}
	}
}

// P5.4: Counts and sums at their edges, and beyond, where an int wraps round, and where a wide number ends; and such of which a part alone is too great.
func TestSumAtTheEnds(t *testing.T) {
	up, down := of(2, mostSum, mostValue, mostValue), of(2, -mostSum, -mostValue, -mostValue)
	for _, x := range []struct {
		ups, downs int
		more       api.Cell
		want       api.Cell
		errno      api.Errno
	}{
		{1, 0, of(1, 0, 0, 0), of(3, mostSum, 0, mostValue), api.OK},
		{1, 0, of(1, 1, 1, 1), api.Cell{}, api.ErrRange},
		{0, 1, of(1, -1, -1, -1), api.Cell{}, api.ErrRange},
		{2, 0, empty(1), api.Cell{}, api.ErrRange}, {0, 2, empty(1), api.Cell{}, api.ErrRange},
		{4, 0, empty(1), api.Cell{}, api.ErrRange}, {0, 4, empty(1), api.Cell{}, api.ErrRange},
		{8, 0, empty(1), api.Cell{}, api.ErrRange}, {0, 3, empty(1), api.Cell{}, api.ErrRange},
		{2, 1, empty(1), of(6, mostSum, -mostValue, mostValue), api.OK},
		{3, 3, of(1, 6, 6, 6), of(13, 6, -mostValue, mostValue), api.OK},
		{3, 4, of(1, -1, -1, -1), api.Cell{}, api.ErrRange},
		{2000, 1999, empty(1), of(7998, mostSum, -mostValue, mostValue), api.OK},
		{4000, 4001, empty(1), of(16002, -mostSum, -mostValue, mostValue), api.OK},
		{4000, 4002, empty(1), api.Cell{}, api.ErrRange},
		{0, 1024, empty(1), api.Cell{}, api.ErrRange},
	} {
		l := slices.Concat(slices.Repeat([]api.Cell{up}, x.ups), []api.Cell{x.more}, slices.Repeat([]api.Cell{down}, x.downs))
		checkSum(t, l, x.want, x.errno)
		slices.Reverse(l)
		checkSum(t, l, x.want, x.errno)
	}
	part := api.Cell{Count: mostCount / 8}
	checkSum(t, slices.Repeat([]api.Cell{part}, 8), api.Cell{Count: mostCount}, api.OK)
	checkSum(t, append(slices.Repeat([]api.Cell{part}, 8), api.Cell{Count: 1}), api.Cell{}, api.ErrRange)
	checkSum(t, slices.Repeat([]api.Cell{{Count: mostCount}}, 5000), api.Cell{}, api.ErrRange)
	checkSum(t, []api.Cell{of2(1, 0, 0, 0, 1, 1, 1), of2(2, 0, 0, 0, mostSum, 0, 1)}, api.Cell{}, api.ErrRange)
}

// P5.4: cells of all kinds, against the library's numbers.
func TestSumOfMany(t *testing.T) {
	for seed := range 200 {
		for measures := range 3 {
			all := goodCells(measures)
			var l []api.Cell
			for _, n := range noise(seed, 1+seed%9) {
				l = append(l, all[uint(n)%uint(len(all))])
			}
			want, errno := wanted(l)
			checkSum(t, l, want, errno)
		}
	}
}

// orders is a list in some orders.
func orders[T any](l []T, seed int) [][]T {
	back, mixed := slices.Clone(l), slices.Clone(l)
	slices.Reverse(back)
	for i, n := range noise(seed, len(l)) {
		j := int(uint(n) % uint(len(l)))
		mixed[i], mixed[j] = mixed[j], mixed[i]
	}
	at := len(l) / 3
	return [][]T{l, back, mixed, slices.Concat(l[at:], l[:at])}
}

// P5.5: a fold hangs on no order.
func TestFoldHangsOnNoOrder(t *testing.T) {
	for seed := range 30 {
		for measures := range 3 {
			l := append(someValues(seed, measures, 2+seed), slices.Repeat([][]int{slices.Repeat([]int{mostValue}, measures)}, 9)...)
			l = append(l, slices.Repeat([][]int{slices.Repeat([]int{-mostValue}, measures)}, 9)...)
			want, errno := foldWanted(measures, l)
			for _, x := range orders(l, seed) {
				checkFold(t, measures, x, want, errno)
			}
		}
	}
}

// P5.5: a fold is the merge of the folds of two parts, wherever it is cut, and the sum of those of many.
func TestFoldOfParts(t *testing.T) {
	for seed := range 20 {
		for measures := range 3 {
			l := someValues(seed, measures, 30)
			for i := range l {
				for j := range l[i] {
					l[i][j] >>= 6
				}
			}
			whole := fold(t, measures, l...)
			var ones []api.Cell
			for cut := range len(l) + 1 {
				checkMerge(t, fold(t, measures, l[:cut]...), fold(t, measures, l[cut:]...), whole, api.OK)
			}
			for _, v := range l {
				ones = append(ones, fold(t, measures, v))
			}
			checkSum(t, ones, whole, api.OK)
			checkSum(t, []api.Cell{fold(t, measures, l[:7]...), fold(t, measures), fold(t, measures, l[7:20]...), fold(t, measures, l[20:]...)}, whole, api.OK)
		}
	}
}

// P5.5: a sum of cells hangs on no order, and is the merge of the sums of two parts, if these may be.
func TestSumOfParts(t *testing.T) {
	merged := 0
	for seed := range 100 {
		for measures := range 3 {
			all := goodCells(measures)
			var l []api.Cell
			for _, n := range noise(seed, 6) {
				l = append(l, all[uint(n)%uint(len(all))])
			}
			want, errno := wanted(l)
			for _, x := range orders(l, seed) {
				checkSum(t, x, want, errno)
				a, e := cell.Sum(x[:3])
				b, f := cell.Sum(x[3:])
				if e == api.OK && f == api.OK {
					checkMerge(t, a, b, want, errno)
					merged++
				}
			}
		}
	}
	if merged < 100 {
		t.Errorf("only %d times both parts may be", merged)
	}
}

// roomy is a list with room behind it in which something stands.
func roomy(l []int) []int { return append(slices.Clone(l), 77, 88)[:len(l)] }

// R4: what is answered is new: what is written into it, its spare room too, changes nothing that was handed in, and no other answer.
func TestAnswersAreNew(t *testing.T) {
	for measures := 1; measures < 3; measures++ {
		for _, x := range goodCells(measures) {
			c := api.Cell{Count: x.Count, Sums: roomy(x.Sums), Mins: roomy(x.Mins), Maxs: roomy(x.Maxs)}
			for range 2 {
				merged, _ := cell.Merge(c, cell.Empty(measures))
				other, _ := cell.Merge(cell.Empty(measures), c)
				summed, _ := cell.Sum([]api.Cell{c})
				for _, got := range []api.Cell{merged, other, summed} {
					checkCell(t, "an answer", got, api.OK, x, api.OK)
					checkOwn(t, got)
				}
			}
			if l := c.Sums[:cap(c.Sums)]; !same(c, x) || l[measures] != 77 || c.Mins[:cap(c.Mins)][measures+1] != 88 {
				t.Errorf("what was written into an answer changed %v to %v", x, c)
			}
		}
		v := roomy(slices.Repeat([]int{6}, measures))
		for range 2 {
			got, e := cell.Fold(measures, [][]int{v})
			want, _ := foldWanted(measures, [][]int{slices.Repeat([]int{6}, measures)})
			checkCell(t, "Fold", got, e, want, api.OK)
			checkOwn(t, got)
			none := fold(t, measures)
			checkCell(t, "Fold of none", none, api.OK, empty(measures), api.OK)
			checkOwn(t, none)
		}
		if !slices.Equal(v[:measures+2], append(slices.Repeat([]int{6}, measures), 77, 88)) {
			t.Errorf("what was written into a fold changed the values to %v", v[:measures+2])
		}
	}
}

// R4 and R5: a list of cells or values in the midst of a longer one: what stands about it is as it was, and no matter.
func TestListsInTheMidst(t *testing.T) {
	cells := []api.Cell{of(-1, 0, 0, 0), of(1, 4, 4, 4), of(2, 1, -1, 2), of(-1, 5, 5, 5), {}}
	values := [][]int{{1, 1}, {4}, {-2}, nil, {1, 2, 3}}
	beforeCells, beforeValues := copiedAll(cells), [][]int{{1, 1}, {4}, {-2}, nil, {1, 2, 3}}
	for range 3 {
		checkSum(t, cells[1:3], of(3, 5, -1, 4), api.OK)
		checkSum(t, cells[1:3:3], of(3, 5, -1, 4), api.OK)
		checkFold(t, 1, values[1:3], of(2, 2, -2, 4), api.OK)
		checkFold(t, 1, values[1:3:3], of(2, 2, -2, 4), api.OK)
	}
	if !slices.EqualFunc(cells, beforeCells, same) {
		t.Errorf("the cells about a list changed to %v", cells)
	}
	if !slices.EqualFunc(values, beforeValues, func(a, b []int) bool { return slices.Equal(a, b) }) {
		t.Errorf("the values about a list changed to %v", values)
	}
}

// R4: nil and empty lists are one.
func TestNilAndEmptyLists(t *testing.T) {
	full := api.Cell{Count: 2, Sums: []int{}, Mins: nil, Maxs: make([]int, 0, 5)}
	checkMay(t, full, true)
	checkMerge(t, full, api.Cell{Count: 3}, api.Cell{Count: 5}, api.OK)
	checkSum(t, []api.Cell{full, {}, {Count: 1, Mins: []int{}}}, api.Cell{Count: 3}, api.OK)
}
