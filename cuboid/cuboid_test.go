package cuboid_test

import (
	"bytes"
	"encoding/binary"
	"math"
	"math/big"
	"slices"
	"testing"

	"tesseract/api"
	"tesseract/cuboid"
	"tesseract/wire"
)

const (
	mostWidth    = 3
	mostMeasures = 2
	mostCode     = 40
	mostCells    = 64000
	mostCount    = 1 << 40
	mostValue    = 1 << 61
	mostSum      = 1 << 62
)

// badCodes is numbers that are no codes.
var badCodes = []int{-1, -2, mostCode + 1, mostCode + 2, 255, 256, 256 + mostCode, 1 << 32, math.MaxInt, math.MinInt}

// item is a cell under its key.
type item struct {
	key []int
	x   api.Cell
}

// model is a cuboid by the words of the document: its cells, in the order of their keys.
type model struct {
	width, measures int
	items           []item
}

// isKey tells whether codes are a key of a width.
func isKey(width int, key []int) bool {
	for _, code := range key {
		if code < 0 || code > mostCode {
			return false
		}
	}
	return len(key) == width
}

// mayCell tells whether a cell may be.
func mayCell(x api.Cell) bool {
	m := len(x.Sums)
	if m > mostMeasures || len(x.Mins) != m || len(x.Maxs) != m || x.Count < 0 || x.Count > mostCount {
		return false
	}
	for i := range m {
		sum, least, most := x.Sums[i], x.Mins[i], x.Maxs[i]
		switch {
		case x.Count == 0:
			if sum != 0 || least != 0 || most != 0 {
				return false
			}
		case least > most, least < -mostValue, most > mostValue, sum < -mostSum, sum > mostSum:
			return false
		case x.Count == 1 && (sum != least || sum != most):
			return false
		}
	}
	return true
}

// merged is cells that are not empty together, and whether that may be.
func merged(l []api.Cell) (api.Cell, bool) {
	whole := empty(len(l[0].Sums))
	fits := true
	total := func(number func(api.Cell) int) int {
		sum := new(big.Int)
		for _, x := range l {
			sum.Add(sum, big.NewInt(int64(number(x))))
		}
		fits = fits && sum.IsInt64()
		return int(sum.Int64())
	}
	whole.Count = total(func(x api.Cell) int { return x.Count })
	for i := range whole.Sums {
		whole.Sums[i] = total(func(x api.Cell) int { return x.Sums[i] })
		whole.Mins[i], whole.Maxs[i] = math.MaxInt, math.MinInt
		for _, x := range l {
			whole.Mins[i], whole.Maxs[i] = min(whole.Mins[i], x.Mins[i]), max(whole.Maxs[i], x.Maxs[i])
		}
	}
	return whole, fits && mayCell(whole)
}

// find is the place of a key among the items, and whether it is there.
func (m model) find(key []int) (int, bool) {
	return slices.BinarySearchFunc(m.items, key, func(x item, key []int) int { return slices.Compare(x.key, key) })
}

// with is a model with one cell more, or what Add is to answer, and the same model.
func (m model) with(key []int, x api.Cell) (model, api.Errno) {
	if !isKey(m.width, key) || !mayCell(x) || x.Count == 0 || len(x.Sums) != m.measures {
		return m, api.ErrArg
	}
	at, there := m.find(key)
	l := slices.Clone(m.items)
	if !there {
		m.items = slices.Insert(l, at, item{slices.Clone(key), copiedCell(x)})
		return m, api.OK
	}
	both, may := merged([]api.Cell{l[at].x, x})
	if !may {
		return m, api.ErrRange
	}
	l[at] = item{slices.Clone(key), both}
	m.items = l
	return m, api.OK
}

// rolled is the model that Roll is to tell, and what it is to answer.
func (m model) rolled(ups [][]int) (model, api.Errno) {
	if len(ups) != m.width {
		return model{}, api.ErrArg
	}
	under := map[[mostWidth]int][]api.Cell{}
	for _, x := range m.items {
		var up [mostWidth]int
		for i, code := range x.key {
			if code >= len(ups[i]) || ups[i][code] < 0 || ups[i][code] > mostCode {
				return model{}, api.ErrArg
			}
			up[i] = ups[i][code]
		}
		under[up] = append(under[up], x.x)
	}
	up := model{width: m.width, measures: m.measures}
	for key, l := range under {
		whole, may := merged(l)
		if !may {
			return model{}, api.ErrRange
		}
		at, _ := up.find(key[:m.width])
		up.items = slices.Insert(up.items, at, item{slices.Clone(key[:m.width]), whole})
	}
	return up, api.OK
}

// bytesOf is what Put is to put. The library's numbers of changing length have wire's form when they are put.
func bytesOf(m model) []byte {
	b := row(len(m.items))
	for _, x := range m.items {
		b = append(b, rowOf(x)...)
	}
	return b
}

// rowOf is a cell and its key as bytes, whether they may be or not.
func rowOf(x item) []byte {
	b := append(row(x.key...), row(x.x.Count)...)
	for i := range x.x.Sums {
		b = append(b, row(x.x.Sums[i], x.x.Mins[i], x.x.Maxs[i])...)
	}
	return b
}

// row is numbers as bytes.
func row(l ...int) []byte {
	var b []byte
	for _, n := range l {
		b = binary.AppendVarint(b, int64(n))
	}
	return b
}

// empty is the empty cell.
func empty(measures int) api.Cell {
	return api.Cell{Sums: make([]int, measures), Mins: make([]int, measures), Maxs: make([]int, measures)}
}

// one is a cell of one value of each measure.
func one(values ...int) api.Cell {
	return api.Cell{Count: 1, Sums: slices.Clone(values), Mins: slices.Clone(values), Maxs: slices.Clone(values)}
}

// of is a cell of one measure.
func of(count, sum, least, most int) api.Cell {
	return api.Cell{Count: count, Sums: []int{sum}, Mins: []int{least}, Maxs: []int{most}}
}

// wide is a cell of so many measures, another one for each seed.
func wide(measures, seed int) api.Cell {
	x := empty(measures)
	x.Count = 1 + seed%7
	for i := range measures {
		least := seed%50 - 25 + i
		x.Mins[i], x.Maxs[i], x.Sums[i] = least, least+seed%9, 3*least+seed
		if x.Count == 1 {
			x.Sums[i], x.Maxs[i] = least, least
		}
	}
	return x
}

// roomy is a list in memory of its own, with others in the room behind it.
func roomy[T any](l []T, other T) []T {
	return append(append(make([]T, 0, len(l)+2), l...), other, other)[:len(l)]
}

// copiedCell is a cell in memory of its own, with others in the room behind its lists.
func copiedCell(x api.Cell) api.Cell {
	return api.Cell{Count: x.Count, Sums: roomy(x.Sums, 77), Mins: roomy(x.Mins, 77), Maxs: roomy(x.Maxs, 77)}
}

// copiedUps is lists in memory of their own, with others in the room behind each.
func copiedUps(ups [][]int) [][]int {
	var l [][]int
	for _, up := range ups {
		l = append(l, roomy(up, 1))
	}
	return roomy(l, []int{1, 1, 1})
}

// all is a list with the room behind it.
func all[T any](l []T) []T { return l[:cap(l)] }

// sameCell tells whether cells are the same.
func sameCell(x, y api.Cell) bool {
	return x.Count == y.Count && slices.Equal(x.Sums, y.Sums) && slices.Equal(x.Mins, y.Mins) && slices.Equal(x.Maxs, y.Maxs)
}

// sameWithRoom tells whether cells are the same, with what stands in the room behind their lists.
func sameWithRoom(x, y api.Cell) bool {
	return sameCell(api.Cell{Count: x.Count, Sums: all(x.Sums), Mins: all(x.Mins), Maxs: all(x.Maxs)},
		api.Cell{Count: y.Count, Sums: all(y.Sums), Mins: all(y.Mins), Maxs: all(y.Maxs)})
}

// noise is small numbers without a pattern, the same at each call.
func noise(seed, count, below int) []int {
	l := make([]int, count)
	x := uint32(seed)*2654435761 + 12345
	for i := range l {
		x = x*1664525 + 1013904223
		l[i] = int(x>>16) % below
	}
	return l
}

// keysOf is the keys of a model.
func keysOf(m model) [][]int {
	var l [][]int
	for _, x := range m.items {
		l = append(l, x.key)
	}
	return l
}

// check holds all that a cuboid tells against a model.
func check(t *testing.T, about string, c *cuboid.Cuboid, m model) {
	t.Helper()
	if c == nil {
		t.Fatalf("%s: no cuboid", about)
	}
	if got := c.Keys(); !slices.EqualFunc(got, keysOf(m), slices.Equal) || c.Len() != len(m.items) {
		t.Fatalf("%s: Len %d, Keys %v, not %v", about, c.Len(), got, keysOf(m))
	}
	for _, x := range m.items {
		if got, is := c.Get(x.key); !is || !sameCell(got, x.x) {
			t.Fatalf("%s: Get(%v) is %v, %v, not %v", about, x.key, got, is, x.x)
		}
	}
	if got := c.Put(nil); !bytes.Equal(got, bytesOf(m)) {
		t.Fatalf("%s: Put is %v, not %v", about, got, bytesOf(m))
	}
}

// add adds to both, and holds what is answered, what is told then, and what was handed in against the model.
func add(t *testing.T, c *cuboid.Cuboid, m model, key []int, x api.Cell) model {
	t.Helper()
	behind, want := m.with(key, x)
	k, y := roomy(key, 1), copiedCell(x)
	if e := c.Add(k, y); e != want {
		t.Fatalf("Add(%v, %v) is %v, not %v", key, x, e, want)
	}
	if !slices.Equal(all(k), all(roomy(key, 1))) || !sameWithRoom(y, copiedCell(x)) {
		t.Fatalf("Add(%v, %v) changed them to %v, %v", key, x, k, y)
	}
	at, there := behind.find(key)
	got, is := c.Get(key)
	if is != there || there && !sameCell(got, behind.items[at].x) || c.Len() != len(behind.items) {
		t.Fatalf("behind Add(%v, %v) there is %v, %v, and %d of them", key, x, got, is, c.Len())
	}
	if want != api.OK {
		check(t, "behind a refusal", c, m)
	}
	return behind
}

// both is a cuboid and its model, with those cells.
func both(t *testing.T, width, measures int, items ...item) (*cuboid.Cuboid, model) {
	t.Helper()
	c, m := cuboid.New(width, measures), model{width: width, measures: measures}
	for _, x := range items {
		m = add(t, c, m, x.key, x.x)
	}
	check(t, "what was added", c, m)
	return c, m
}

// some is items of a width and measures, so many that are added, which come under fewer keys.
func some(width, measures, count, codes, seed int) []item {
	var l []item
	pick := noise(seed, count*(width+1), 1<<16)
	for i := range count {
		key := make([]int, width)
		for j := range key {
			key[j] = pick[i*(width+1)+j] % codes
		}
		l = append(l, item{key, wide(measures, pick[i*(width+1)+width])})
	}
	return l
}

// kinds is a width and a number of measures each.
func kinds() [][2]int {
	var l [][2]int
	for width := 1; width <= mostWidth; width++ {
		for measures := 1; measures <= mostMeasures; measures++ {
			l = append(l, [2]int{width, measures})
		}
	}
	return l
}

// orders is each order of so many numbers.
func orders(count int) [][]int {
	l := [][]int{nil}
	for n := range count {
		var longer [][]int
		for _, o := range l {
			for at := range n + 1 {
				longer = append(longer, slices.Insert(slices.Clone(o), at, n))
			}
		}
		l = longer
	}
	return l
}

// The document's examples.
func TestExamples(t *testing.T) {
	c := cuboid.New(2, 1)
	for _, x := range []item{{[]int{1, 2}, one(5)}, {[]int{1, 3}, one(7)}, {[]int{1, 2}, one(-1)}} {
		if e := c.Add(x.key, x.x); e != api.OK {
			t.Errorf("Add(%v, %v) is %v", x.key, x.x, e)
		}
	}
	if x, is := c.Get([]int{1, 2}); c.Len() != 2 || !is || !sameCell(x, of(2, 4, -1, 5)) {
		t.Errorf("Len %d, Get([1, 2]) is %v, %v", c.Len(), x, is)
	}
	up, e := c.Roll([][]int{{0, 1}, {0, 0, 0, 0}})
	if e != api.OK || up.Len() != 1 {
		t.Fatalf("Roll is %v, of %d cells", e, up.Len())
	}
	if x, is := up.Get([]int{1, 0}); !is || !sameCell(x, of(3, 11, -1, 7)) {
		t.Errorf("under [1, 0] is %v, %v", x, is)
	}
}

// P10.1: New, of each width and each number of measures.
func TestNew(t *testing.T) {
	numbers := []int{math.MinInt, -256, -1, 0, 1, 2, 3, 4, 5, 40, 256, 257, 1 << 32, 1<<32 + 1, math.MaxInt}
	for _, width := range numbers {
		for _, measures := range numbers {
			c := cuboid.New(width, measures)
			may := width >= 1 && width <= 3 && measures >= 1 && measures <= 2
			if (c != nil) != may {
				t.Fatalf("New(%d, %d) is %v", width, measures, c)
			}
			if !may {
				continue
			}
			check(t, "New", c, model{width: width, measures: measures})
			if x, is := c.Get(make([]int, width)); is || !sameCell(x, api.Cell{}) {
				t.Errorf("New(%d, %d) has %v", width, measures, x)
			}
		}
	}
}

// P10.1: Add, and Get, of keys with too few and too many codes.
func TestKeysOfOtherWidths(t *testing.T) {
	for _, k := range kinds() {
		c, m := both(t, k[0], k[1], some(k[0], k[1], 5, 3, 1)...)
		for _, width := range []int{0, 1, 2, 3, 4, 5, 6, 256, 257, 258, 259} {
			key := make([]int, width)
			if _, want := m.with(key, wide(k[1], 1)); (want == api.OK) != (width == k[0]) {
				t.Fatalf("the test's own word on %v is %v", key, want)
			}
			m = add(t, c, m, key, wide(k[1], 1))
			if _, is := c.Get(key); is != (width == k[0]) {
				t.Errorf("Get(%v) of width %d: %v", key, k[0], is)
			}
		}
		key := make([]int, 5)
		m = add(t, c, m, key[:k[0]], wide(k[1], 2)) // codes behind a key are none of it
		m = add(t, c, m, nil, wide(k[1], 2))
		add(t, c, m, []int{}, wide(k[1], 2))
		if x, is := c.Get(nil); is || !sameCell(x, api.Cell{}) {
			t.Errorf("Get(nil) is %v", x)
		}
	}
}

// P10.1: Add, and Get, of each code at each place.
func TestCodes(t *testing.T) {
	for _, k := range kinds() {
		c, m := both(t, k[0], k[1])
		for place := range k[0] {
			for code := range mostCode + 1 {
				key := slices.Repeat([]int{7}, k[0])
				key[place] = code
				m = add(t, c, m, key, wide(k[1], code))
			}
			for _, code := range badCodes {
				key := slices.Repeat([]int{7}, k[0])
				key[place] = code
				m = add(t, c, m, key, wide(k[1], 3))
				if x, is := c.Get(key); is || !sameCell(x, api.Cell{}) {
					t.Errorf("Get(%v) is %v, %v", key, x, is)
				}
			}
		}
		check(t, "each code", c, m)
	}
}

// mayBeNone is cells of so many measures that no cuboid of them has.
func mayBeNone(measures int) []api.Cell {
	l := []api.Cell{{}, {Count: 1}, {Count: 2}, {Count: -1}, empty(measures), empty(0), empty(3)}
	for other := range 5 {
		if other != measures {
			l = append(l, empty(other), wide(other, 1), wide(other, 0), one(make([]int, other)...))
		}
	}
	turned := func(turn func(*api.Cell)) {
		for _, x := range []api.Cell{wide(measures, 2), wide(measures, 14), wide(measures, 0)} {
			turn(&x)
			l = append(l, x)
		}
	}
	for _, count := range []int{0, -1, math.MinInt, mostCount + 1, math.MaxInt} {
		turned(func(x *api.Cell) { x.Count = count })
	}
	for i := range measures {
		turned(func(x *api.Cell) { x.Mins[i] = x.Maxs[i] + 1 })
		for _, n := range []int{mostValue + 1, math.MaxInt} {
			turned(func(x *api.Cell) { x.Maxs[i] = n })
			turned(func(x *api.Cell) { x.Mins[i], x.Maxs[i] = n, n })
			turned(func(x *api.Cell) { x.Mins[i] = -n })
			turned(func(x *api.Cell) { x.Mins[i], x.Maxs[i], x.Sums[i] = -n, -n, -n })
		}
		for _, n := range []int{mostSum + 1, -mostSum - 1, math.MaxInt, math.MinInt} {
			turned(func(x *api.Cell) { x.Sums[i] = n })
		}
		for _, n := range []int{-1, 1} {
			turned(func(x *api.Cell) { *x = one(slices.Repeat([]int{5}, measures)...); x.Sums[i] += n })
			turned(func(x *api.Cell) { *x = one(slices.Repeat([]int{5}, measures)...); x.Mins[i] += n })
			turned(func(x *api.Cell) { *x = one(slices.Repeat([]int{5}, measures)...); x.Maxs[i] += n })
			turned(func(x *api.Cell) { *x = empty(measures); x.Sums[i] = n })
			turned(func(x *api.Cell) { *x = empty(measures); x.Mins[i] = n })
		}
	}
	turned(func(x *api.Cell) { x.Sums = x.Sums[1:] })
	turned(func(x *api.Cell) { x.Mins = x.Mins[1:] })
	turned(func(x *api.Cell) { x.Maxs = x.Maxs[1:] })
	turned(func(x *api.Cell) { x.Sums = append(x.Sums, 0) })
	turned(func(x *api.Cell) { x.Mins = append(x.Mins, 0) })
	turned(func(x *api.Cell) { x.Maxs = append(x.Maxs, 0) })
	turned(func(x *api.Cell) { x.Sums, x.Mins, x.Maxs = nil, nil, nil })
	turned(func(x *api.Cell) { x.Maxs = nil })
	return l
}

// P10.1: Add, of cells that may not be, are empty, or have another number of measures, where there is a cell and where there is none.
func TestAddOfOtherCells(t *testing.T) {
	for _, k := range kinds() {
		c, m := both(t, k[0], k[1], item{make([]int, k[0]), wide(k[1], 1)})
		for _, x := range mayBeNone(k[1]) {
			for _, code := range []int{0, 1, mostCode + 1} {
				key := slices.Repeat([]int{code}, k[0])
				if _, e := m.with(key, x); e != api.ErrArg {
					t.Fatalf("the test's own word on %v is %v", x, e)
				}
				m = add(t, c, m, key, x)
			}
		}
	}
}

// edges is cells of one measure with a number at an edge.
func edges() []api.Cell {
	return []api.Cell{
		one(0), one(-1), one(mostValue), one(-mostValue),
		of(2, 5, 5, 5), of(2, mostSum, -mostValue, mostValue), of(2, -mostSum, -mostValue, mostValue),
		of(2, mostSum, mostValue, mostValue), of(3, mostSum-1, 0, 0), of(3, 1-mostSum, 0, 0), of(2, mostSum, 0, 0),
		of(mostCount, 0, -1, 1), of(mostCount-1, 0, 0, 0), of(mostCount, mostSum, -mostValue, -mostValue),
	}
}

// P10.1: Add, of a first and of a second cell under one key; a sum that may not be is refused, and nothing has changed then.
func TestAddTwice(t *testing.T) {
	seen := map[api.Errno]int{}
	for _, x := range edges() {
		for _, y := range edges() {
			for _, k := range kinds() {
				x, y := x, y
				if k[1] == 2 {
					x, y = inTwo(x, of(x.Count, 3*x.Count, 3, 3)), inTwo(y, of(y.Count, 3*y.Count, 3, 3))
				}
				key := slices.Repeat([]int{2}, k[0])
				c, m := both(t, k[0], k[1], item{key, x}, item{make([]int, k[0]), wide(k[1], 3)})
				_, e := m.with(key, y)
				seen[e]++
				m = add(t, c, m, key, y)
				check(t, "behind both", c, m)
				m = add(t, c, m, make([]int, k[0]), wide(k[1], 4))
				check(t, "behind a third", c, m)
				if e == api.OK {
					continue
				}
				if k[1] == 1 {
					m = add(t, c, m, key, of(1, 0, 0, 0))
				} else {
					m = add(t, c, m, key, one(0, 0))
				}
				check(t, "behind a refusal and one that may be", c, m)
			}
		}
	}
	if len(seen) != 2 || seen[api.OK] < 100 || seen[api.ErrRange] < 100 {
		t.Errorf("so many of each: %v", seen)
	}
}

// inTwo is a cell of two measures, out of two of one each.
func inTwo(x, y api.Cell) api.Cell {
	return api.Cell{Count: x.Count, Sums: append(x.Sums[:1:1], y.Sums...), Mins: append(x.Mins[:1:1], y.Mins...), Maxs: append(x.Maxs[:1:1], y.Maxs...)}
}

// P10.1: the range of the second measure is looked at as that of the first.
func TestAddOfTwoMeasures(t *testing.T) {
	for _, x := range edges() {
		for _, y := range edges() {
			c, m := both(t, 2, 2, item{[]int{0, 40}, inTwo(of(x.Count, x.Count, 1, 1), x)})
			m = add(t, c, m, []int{0, 40}, inTwo(of(y.Count, y.Count, 1, 1), y))
			m = add(t, c, m, []int{40, 0}, inTwo(of(y.Count, y.Count, 1, 1), y))
			check(t, "two measures", c, m)
		}
	}
}

// P10.1: Get, of a key that is there, of one that is not, and of what is no key.
func TestGet(t *testing.T) {
	for _, k := range kinds() {
		c, m := both(t, k[0], k[1], some(k[0], k[1], 12, 4, 5)...)
		for _, key := range slices.Concat(cube(k[0], 6), [][]int{nil, make([]int, k[0]-1), make([]int, k[0]+1), slices.Repeat([]int{-1}, k[0]), slices.Repeat([]int{41}, k[0])}) {
			mine := roomy(key, 2)
			x, is := c.Get(mine)
			at, there := m.find(key)
			if is != there || there && !sameCell(x, m.items[at].x) || !there && !sameCell(x, api.Cell{}) {
				t.Errorf("Get(%v) is %v, %v", key, x, is)
			}
			if !slices.Equal(all(mine), all(roomy(key, 2))) {
				t.Errorf("Get(%v) changed it to %v", key, mine)
			}
		}
		check(t, "behind Get", c, m)
	}
}

// cube is each key of a width, of so many codes from 0 on, in order.
func cube(width, codes int) [][]int {
	l := [][]int{nil}
	for range width {
		var longer [][]int
		for _, key := range l {
			for code := range codes {
				longer = append(longer, append(slices.Clone(key), code))
			}
		}
		l = longer
	}
	return l
}

// P10.1: Keys and Len, of no cell, of one, and of some that are added in every order.
func TestKeysInEveryOrder(t *testing.T) {
	sets := [][][]int{
		nil,
		{{0}},
		{{40}},
		{{0}, {1}, {9}, {10}, {40}},
		{{0, 0}, {0, 40}, {1, 0}, {1, 39}, {40, 0}},
		{{0, 1}, {1, 0}},
		{{0, 0, 1}, {0, 1, 0}, {1, 0, 0}},
		{{0, 0, 0}, {0, 0, 40}, {0, 1, 3}, {0, 1, 20}, {2, 0, 0}, {10, 0, 0}},
	}
	for _, keys := range sets {
		for _, order := range orders(len(keys)) {
			width := 1
			if len(keys) > 0 {
				width = len(keys[0])
			}
			c := cuboid.New(width, 1)
			for i, n := range order {
				c.Add(keys[n], one(n))
				c.Add(keys[n], one(n)) // each key just once, though it came twice
				if c.Len() != i+1 {
					t.Errorf("Len is %d behind %d", c.Len(), i+1)
				}
			}
			if got := c.Keys(); !slices.EqualFunc(got, keys, slices.Equal) || c.Len() != len(keys) {
				t.Errorf("Keys, added as %v, is %v, not %v", order, got, keys)
			}
		}
	}
}

// P10.1: Keys and Len, of all keys of a few codes.
func TestKeysOfMany(t *testing.T) {
	for _, x := range [][3]int{{1, 41, 7}, {2, 41, 16}, {3, 11, 60}} {
		keys := cube(x[0], x[1])
		c := cuboid.New(x[0], 2)
		for i := range keys {
			if e := c.Add(keys[i*x[2]%len(keys)], one(i, -i)); e != api.OK {
				t.Fatalf("Add is %v", e)
			}
		}
		if got := c.Keys(); !slices.EqualFunc(got, keys, slices.Equal) || c.Len() != len(keys) {
			t.Errorf("Keys of width %d is %v", x[0], got)
		}
	}
}

// P10.1: Copy, of no cell and of several; neither knows of what is added to the other later.
func TestCopy(t *testing.T) {
	for _, k := range kinds() {
		for _, count := range []int{0, 1, 2, 30} {
			first, m := both(t, k[0], k[1], some(k[0], k[1], count, 3, count)...)
			second := first.Copy()
			check(t, "Copy", second, m)
			one, other := m, m
			for i, x := range some(k[0], k[1], 20, 5, 99) {
				if i%2 == 0 {
					one = add(t, first, one, x.key, x.x)
				} else {
					other = add(t, second, other, x.key, x.x)
				}
				check(t, "the first", first, one)
				check(t, "its copy", second, other)
			}
			third := second.Copy()
			add(t, second, other, slices.Repeat([]int{40}, k[0]), wide(k[1], 8))
			check(t, "a copy of the copy", third, other)
		}
	}
}

// checkRoll holds Roll against the model: what it answers, and that it and the lists are as they were.
func checkRoll(t *testing.T, c *cuboid.Cuboid, m model, ups [][]int) (*cuboid.Cuboid, model, api.Errno) {
	t.Helper()
	want, errno := m.rolled(ups)
	mine := copiedUps(ups)
	up, e := c.Roll(mine)
	if e != errno || (up == nil) != (e != api.OK) {
		t.Fatalf("Roll(%v) of %v is %v, %v, not %v", ups, keysOf(m), up, e, errno)
	}
	same := func(a, b []int) bool { return slices.Equal(all(a), all(b)) }
	if !slices.EqualFunc(all(mine), all(copiedUps(ups)), same) {
		t.Fatalf("Roll changed %v to %v", ups, mine)
	}
	check(t, "behind Roll", c, m)
	if e == api.OK {
		check(t, "rolled up", up, want)
	}
	return up, want, errno
}

// same is lists by which each code leads to itself.
func same(width int) [][]int {
	var l [][]int
	for range width {
		var up []int
		for code := range mostCode + 1 {
			up = append(up, code)
		}
		l = append(l, up)
	}
	return l
}

// P10.2: Roll, of no cell and of several, to all 0, to the same, to the same in another order, to the half, and to the greatest code.
func TestRoll(t *testing.T) {
	for _, k := range kinds() {
		for _, count := range []int{0, 1, 2, 50} {
			c, m := both(t, k[0], k[1], some(k[0], k[1], count, mostCode+1, count)...)
			for _, to := range []func(code int) int{
				func(int) int { return 0 },
				func(int) int { return mostCode },
				func(code int) int { return code },
				func(code int) int { return mostCode - code },
				func(code int) int { return code / 2 },
				func(code int) int { return code % 3 },
			} {
				ups := same(k[0])
				for place := range ups {
					for code := range ups[place] {
						ups[place][code] = to(code)
					}
					if _, _, e := checkRoll(t, c, m, ups); e != api.OK {
						t.Errorf("Roll(%v) is %v", ups, e)
					}
				}
			}
			up, _, _ := checkRoll(t, c, m, same(k[0]))
			check(t, "rolled up to the same", up, m)
		}
	}
}

// P10.2: Roll, with too few and too many lists, also of no cell.
func TestRollOfOtherWidths(t *testing.T) {
	for _, k := range kinds() {
		for _, count := range []int{0, 1, 10} {
			c, m := both(t, k[0], k[1], some(k[0], k[1], count, 3, 2)...)
			for _, width := range []int{0, 1, 2, 3, 4, 5, 256, 257, 258, 259} {
				want := api.ErrArg
				if width == k[0] {
					want = api.OK
				}
				if _, _, e := checkRoll(t, c, m, same(width)); e != want {
					t.Errorf("Roll with %d lists of a width of %d is %v", width, k[0], e)
				}
			}
			checkRoll(t, c, m, nil)
			if _, e := c.Roll(same(k[0] + 1)[:k[0]]); e != api.OK {
				t.Errorf("Roll with a list in the room behind is %v", e)
			}
		}
	}
}

// P10.2: Roll, with lists of each length: a code of a key must be below it, at its own place; of no cell they may be empty.
func TestRollOfShortLists(t *testing.T) {
	for _, k := range kinds() {
		for place := range k[0] {
			for _, code := range []int{0, 1, 7, mostCode} {
				key := slices.Repeat([]int{3}, k[0])
				key[place] = code
				c, m := both(t, k[0], k[1], item{make([]int, k[0]), wide(k[1], 1)}, item{key, wide(k[1], 2)})
				for length := range mostCode + 3 {
					ups := same(k[0])
					ups[place] = make([]int, length)
					want := api.OK
					if length <= code {
						want = api.ErrArg
					}
					if _, _, e := checkRoll(t, c, m, ups); e != want {
						t.Errorf("Roll with a list of %d for the code %d is %v", length, code, e)
					}
				}
				ups := same(k[0])
				ups[place] = ups[place][:code] // what stands behind the list is none of it
				if up, e := c.Roll(ups); up != nil || e != api.ErrArg {
					t.Errorf("Roll with the code %d in the room behind a list is %v", code, e)
				}
			}
		}
		c, m := both(t, k[0], k[1])
		if up, _, e := checkRoll(t, c, m, make([][]int, k[0])); e != api.OK || up.Len() != 0 {
			t.Errorf("Roll of no cell with empty lists is %v", e)
		}
	}
}

// P10.2: Roll, with what is no code where a key has that code, and where none has it.
func TestRollToNoCode(t *testing.T) {
	for _, k := range kinds() {
		for place := range k[0] {
			for _, no := range badCodes {
				c, m := both(t, k[0], k[1])
				for code := range 5 {
					m = add(t, c, m, slices.Repeat([]int{2 * code}, k[0]), wide(k[1], code))
				}
				for code := range mostCode + 1 {
					ups := same(k[0])
					ups[place][code] = no
					want := api.OK
					if code%2 == 0 && code < 10 {
						want = api.ErrArg
					}
					if _, _, e := checkRoll(t, c, m, ups); e != want {
						t.Errorf("Roll with %d for the code %d is %v", no, code, e)
					}
				}
				ups := same(k[0])
				ups[place] = append(ups[place], no) // of no key's code
				if _, _, e := checkRoll(t, c, m, ups); e != api.OK {
					t.Errorf("Roll with %d for the code 41 is %v", no, e)
				}
			}
		}
	}
}

// P10.2: Roll, of cells that come under one key, in every order of them; only the sum of all must be one that may be. ErrArg is said before ErrRange.
func TestRollOfGreatSums(t *testing.T) {
	great, least := of(2, mostSum, mostValue, mostValue), of(2, -mostSum, -mostValue, -mostValue)
	for _, x := range []struct {
		l    []api.Cell
		want api.Errno
	}{
		{[]api.Cell{great}, api.OK},
		{[]api.Cell{great, great}, api.ErrRange},
		{[]api.Cell{least, least}, api.ErrRange},
		{[]api.Cell{great, great, least}, api.OK},
		{[]api.Cell{great, great, least, least}, api.OK},
		{[]api.Cell{great, least, least}, api.OK},
		{[]api.Cell{great, great, least, one(1)}, api.ErrRange},
		{[]api.Cell{great, great, least, one(-1)}, api.OK},
		{[]api.Cell{great, one(1)}, api.ErrRange},
		{[]api.Cell{great, one(1), one(-1)}, api.OK},
		{[]api.Cell{great, great, great}, api.ErrRange},
		{[]api.Cell{great, great, great, great}, api.ErrRange}, // 2^64 in all, which is 0 of 64 bits
		{[]api.Cell{great, great, great, great, one(1)}, api.ErrRange},
		{[]api.Cell{least, least, least, least}, api.ErrRange},
		{[]api.Cell{of(mostCount, 0, 0, 0), one(0)}, api.ErrRange},
		{[]api.Cell{of(mostCount-1, 0, 0, 0), one(0)}, api.OK},
		{[]api.Cell{of(mostCount-1, 0, 0, 0), one(0), one(0)}, api.ErrRange},
	} {
		for _, order := range orders(len(x.l)) {
			for _, twice := range []bool{false, true} {
				var items []item
				for i, n := range order {
					y := x.l[n]
					if twice {
						y = inTwo(of(y.Count, y.Count, 1, 1), y)
					}
					items = append(items, item{[]int{i, 3}, y})
				}
				measures := len(items[0].x.Sums)
				c, m := both(t, 2, measures, append(items, item{[]int{9, 9}, wide(measures, 4)})...)
				ups := [][]int{make([]int, 10), same(1)[0]}
				if _, _, e := checkRoll(t, c, m, ups); e != x.want {
					t.Errorf("Roll of %v is %v", items, e)
				}
				ups[1][9] = -1
				if _, _, e := checkRoll(t, c, m, ups); e != api.ErrArg {
					t.Errorf("Roll of %v, one to no code, is %v", items, e)
				}
			}
		}
	}
}

// P10.5: rolled up twice is rolled up once by both.
func TestRollTwice(t *testing.T) {
	for seed := range 300 {
		k := kinds()[seed%6]
		c, m := both(t, k[0], k[1], some(k[0], k[1], 1+seed%40, 8, seed)...)
		pick := noise(seed, 200, 8)
		var first, second, whole [][]int
		for range k[0] {
			one, two := pick[:8], pick[8:16]
			var both []int
			for _, code := range one {
				both = append(both, two[code])
			}
			first, second, whole = append(first, one), append(second, two), append(whole, both)
			pick = pick[16:]
		}
		up, middle, _ := checkRoll(t, c, m, first)
		_, twice, _ := checkRoll(t, up, middle, second)
		up, _, e := checkRoll(t, c, m, whole)
		if e != api.OK {
			t.Fatalf("Roll is %v", e)
		}
		check(t, "once by both", up, twice)
	}
}

// P10.2: what is rolled up is another cuboid: neither knows of what is added to the other later.
func TestRollIsAnother(t *testing.T) {
	for _, k := range kinds() {
		c, m := both(t, k[0], k[1], some(k[0], k[1], 9, 3, 4)...)
		up, rolled, _ := checkRoll(t, c, m, same(k[0]))
		for i, x := range some(k[0], k[1], 20, 4, 6) {
			if i%2 == 0 {
				m = add(t, c, m, x.key, x.x)
			} else {
				rolled = add(t, up, rolled, x.key, x.x)
			}
			check(t, "the one", c, m)
			check(t, "what was rolled up", up, rolled)
		}
	}
}

// P10.4: a cell is what was added under its key, in whatever order.
func TestAddInEveryOrder(t *testing.T) {
	for _, k := range kinds() {
		items := append(some(k[0], k[1], 4, 2, 3), item{make([]int, k[0]), wide(k[1], 5)}, item{make([]int, k[0]), wide(k[1], 6)})
		_, m := both(t, k[0], k[1], items...)
		for _, order := range orders(len(items)) {
			c := cuboid.New(k[0], k[1])
			for _, n := range order {
				if e := c.Add(items[n].key, items[n].x); e != api.OK {
					t.Fatalf("Add is %v", e)
				}
			}
			check(t, "another order", c, m)
		}
	}
}

// P10.3: Put, of no cell and of several, behind no bytes and behind some, which stay as they are, with the room behind them.
func TestPut(t *testing.T) {
	for _, k := range kinds() {
		for _, count := range []int{0, 1, 2, 40} {
			c, m := both(t, k[0], k[1], some(k[0], k[1], count, 30, count)...)
			for _, b := range [][]byte{nil, {}, {9}, {1, 2, 3, 255, 0}, bytes.Repeat([]byte{7}, 200)} {
				for _, room := range []int{0, 1, 5, 5000} {
					mine := append(append(make([]byte, 0, len(b)+room), b...), bytes.Repeat([]byte{88}, room)...)
					got := c.Put(mine[:len(b)])
					if !bytes.Equal(got, append(bytes.Clone(b), bytesOf(m)...)) {
						t.Fatalf("Put behind %v is %v, not %v", b, got, bytesOf(m))
					}
					for i := range got {
						got[i] ^= 255
					}
					_ = append(got, 1, 2, 3)
					if !bytes.Equal(mine[:len(b)], b) || bytes.ContainsFunc(mine[len(b):], func(c rune) bool { return c != 88 }) {
						t.Errorf("Put behind %v changed it, or the room behind it, to %v", b, mine)
					}
					check(t, "behind Put", c, m)
				}
			}
		}
	}
	for _, x := range []struct {
		width, measures int
		l               []item
		want            []byte
	}{
		{1, 1, nil, []byte{0}},
		{3, 2, nil, []byte{0}},
		{2, 1, []item{{[]int{1, 3}, one(7)}, {[]int{1, 2}, one(5)}, {[]int{1, 2}, one(-1)}}, []byte{4, 2, 4, 4, 8, 1, 10, 2, 6, 2, 14, 14, 14}},
		{1, 2, []item{{[]int{40}, api.Cell{Count: 2, Sums: []int{64, -1}, Mins: []int{31, -3}, Maxs: []int{33, 2}}}}, []byte{2, 80, 4, 128, 1, 62, 66, 1, 5, 4}},
	} {
		c, _ := both(t, x.width, x.measures, x.l...)
		if got := c.Put(nil); !bytes.Equal(got, x.want) {
			t.Errorf("Put of %v is %v, not %v", x.l, got, x.want)
		}
	}
}

// read is what Read is to answer of bytes, by the words of the document: the model, the place behind it, and the error.
func read(b []byte, width, measures int) (model, int, api.Errno) {
	at, errno := 0, api.OK
	next := func(least, most int) int {
		if errno != api.OK {
			return 0
		}
		n, used, e := wire.GetInt(b[at:])
		if e == api.OK && (n < least || n > most) {
			e = api.ErrBytes
		}
		if errno = e; errno != api.OK {
			return 0
		}
		at += used
		return n
	}
	m := model{width: width, measures: measures}
	for left := next(0, mostCells); left > 0 && errno == api.OK; left-- {
		x := item{make([]int, width), empty(measures)}
		for i := range x.key {
			x.key[i] = next(0, mostCode)
		}
		x.x.Count = next(1, mostCount)
		for i := range measures {
			x.x.Sums[i], x.x.Mins[i], x.x.Maxs[i] = next(-mostSum, mostSum), next(-mostValue, mostValue), next(-mostValue, mostValue)
		}
		last := len(m.items) - 1
		if errno == api.OK && (!mayCell(x.x) || last >= 0 && slices.Compare(x.key, m.items[last].key) <= 0) {
			errno = api.ErrBytes
		}
		m.items = append(m.items, x)
	}
	if errno != api.OK {
		return model{}, at, errno
	}
	return m, at, api.OK
}

// checkRead holds Read of bytes, with a number ahead, against read: the cuboid, the place, and the error, which stays. It tells the error.
func checkRead(t *testing.T, b []byte, width, measures int) api.Errno {
	t.Helper()
	whole := append([]byte{3}, b...)
	before := bytes.Clone(whole)
	r := wire.New(whole)
	r.Int(-2, -2)
	want, at, errno := read(b, width, measures)
	got := cuboid.Read(r, width, measures)
	if (got == nil) != (errno != api.OK) || r.At() != at+1 || r.Failed() != (errno != api.OK) {
		t.Fatalf("Read of %v is %v, at %d, %v, not %v, at %d, %v", b, got, r.At()-1, r.End(), want, at, errno)
	}
	if !bytes.Equal(whole, before) {
		t.Fatalf("Read changed %v to %v", before, whole)
	}
	if errno != api.OK {
		if r.End() != errno {
			t.Fatalf("Read of %v is %v, not %v", b, r.End(), errno)
		}
		return errno
	}
	if (r.End() == api.OK) != (at == len(b)) {
		t.Fatalf("Read of %v, to %d: %v", b, at, r.End())
	}
	check(t, "what is read", got, want)
	if again := got.Put(nil); !bytes.Equal(again, b[:at]) {
		t.Fatalf("what is read of %v is put as %v", b, again)
	}
	return api.OK
}

// P10.3 and P10.4: what was put is read, with bytes ahead and behind, which stay to be read, and goes on alike.
func TestReadOfPut(t *testing.T) {
	for _, k := range kinds() {
		for _, count := range []int{0, 1, 2, 3, 40, 500} {
			c, m := both(t, k[0], k[1], some(k[0], k[1], count, mostCode+1, count)...)
			for _, ahead := range []int{0, 1, -65} {
				for _, behind := range [][]byte{nil, {0}, {255}, {2, 0, 2, 2}, {128}, bytes.Repeat([]byte{2}, 50)} {
					whole := c.Put(row(ahead))
					r := wire.New(append(bytes.Clone(whole), behind...))
					r.Int(ahead, ahead)
					got := cuboid.Read(r, k[0], k[1])
					if got == nil || r.Failed() || r.At() != len(whole) || (r.End() == api.OK) != (len(behind) == 0) {
						t.Fatalf("Read of %v is %v, at %d, %v", whole, got, r.At(), r.End())
					}
					check(t, "what is read", got, m)
				}
			}
			got := cuboid.Read(wire.New(c.Put(nil)), k[0], k[1])
			also := m
			for _, x := range some(k[0], k[1], 9, mostCode+1, count) {
				also = add(t, got, also, x.key, x.x)
			}
			check(t, "behind what was added to the one that is read", got, also)
			check(t, "the one that was put", c, m)
			checkRoll(t, got, also, same(k[0]))
		}
	}
}

// P10.3: as many cells as may be read, and one more.
func TestReadOfMany(t *testing.T) {
	keys := cube(3, mostCode+1)
	for _, x := range []struct {
		count int
		errno api.Errno
		at    int
	}{{mostCells, api.OK, 3 + 7*mostCells}, {mostCells + 1, api.ErrBytes, 0}, {len(keys), api.ErrBytes, 0}} {
		b := row(x.count)
		for _, key := range keys[:x.count] {
			b = append(b, rowOf(item{key, one(5)})...)
		}
		r := wire.New(b)
		c := cuboid.Read(r, 3, 1)
		if r.At() != x.at || r.Failed() != (x.errno != api.OK) || r.End() != x.errno {
			t.Errorf("Read of %d cells ends at %d, %v", x.count, r.At(), r.End())
		}
		if (c == nil) != (x.errno != api.OK) {
			t.Errorf("Read of %d cells is %v", x.count, c)
		}
		if c != nil && (c.Len() != mostCells || !bytes.Equal(c.Put(nil), b)) {
			t.Errorf("Read of %d cells has %d", x.count, c.Len())
		}
	}
}

// P10.3: a width and measures that may not be: then the reader stays as it is.
func TestReadOfNoWidth(t *testing.T) {
	numbers := []int{math.MinInt, -1, 0, 1, 2, 3, 4, 256, 257, math.MaxInt}
	for _, width := range numbers {
		for _, measures := range numbers {
			r := wire.New([]byte{0, 0})
			c := cuboid.Read(r, width, measures)
			if may := cuboid.New(width, measures) != nil; (c != nil) != may || r.Failed() || (r.At() == 1) != may {
				t.Errorf("Read(%d, %d) is %v, at %d, %v", width, measures, c, r.At(), r.End())
			}
			if c := cuboid.Read(nil, width, measures); c != nil {
				t.Errorf("Read(nil, %d, %d) is %v", width, measures, c)
			}
		}
	}
}

// P10.3: a reader that has an error already, and one that is at its end.
func TestReadOfNoReader(t *testing.T) {
	c, _ := both(t, 2, 1, some(2, 1, 5, 5, 5)...)
	whole := c.Put(nil)
	for _, errno := range []api.Errno{api.ErrBytes, api.ErrShort} {
		r := wire.New(whole)
		if errno == api.ErrShort {
			r = wire.New(append([]byte{40}, 'a'))
			r.Text(20)
		} else {
			r.Bad()
		}
		if c := cuboid.Read(r, 2, 1); c != nil || r.At() != 0 || r.End() != errno {
			t.Errorf("Read of one with the error %v is %v, at %d, %v", errno, c, r.At(), r.End())
		}
	}
	r := wire.New(whole)
	if c := cuboid.Read(r, 2, 1); c == nil || r.End() != api.OK {
		t.Errorf("Read of all is %v, %v", c, r.End())
	}
	for range 2 {
		if c := cuboid.Read(r, 2, 1); c != nil || r.At() != len(whole) || r.End() != api.ErrShort {
			t.Errorf("Read at the end is %v, at %d, %v", c, r.At(), r.End())
		}
	}
}

// P10.3: each refusal by hand: the place and the error.
func TestReadOfOthers(t *testing.T) {
	for _, x := range []struct {
		about string
		b     []byte
		at    int
		errno api.Errno
	}{
		{"no byte", nil, 0, api.ErrShort},
		{"no cell", row(0), 1, api.OK},
		{"-1 cells", row(-1), 0, api.ErrBytes},
		{"64000 cells that are not there", row(mostCells), 3, api.ErrShort},
		{"64001 cells", row(mostCells + 1), 0, api.ErrBytes},
		{"the greatest int of cells", row(math.MaxInt), 0, api.ErrBytes},
		{"the least int of cells", row(math.MinInt), 0, api.ErrBytes},
		{"no number of cells", []byte{130, 0}, 0, api.ErrBytes},
		{"half a number of cells", []byte{130}, 0, api.ErrShort},
		{"a cell", row(1, 0, 40, 1, 5, 5, 5), 7, api.OK},
		{"a first code of -1", row(1, -1, 0, 1, 5, 5, 5), 1, api.ErrBytes},
		{"a first code of 41", row(1, 41, 0, 1, 5, 5, 5), 1, api.ErrBytes},
		{"a second code of -1", row(1, 0, -1, 1, 5, 5, 5), 2, api.ErrBytes},
		{"a second code of 41", row(1, 0, 41, 1, 5, 5, 5), 2, api.ErrBytes},
		{"no second code", row(1, 0), 2, api.ErrShort},
		{"a Count of 0", row(1, 0, 0, 0, 0, 0, 0), 3, api.ErrBytes},
		{"a Count of -1", row(1, 0, 0, -1, 0, 0, 0), 3, api.ErrBytes},
		{"the greatest Count", row(1, 0, 0, mostCount, 0, 0, 0), 12, api.OK},
		{"one beyond it", row(1, 0, 0, mostCount+1, 0, 0, 0), 3, api.ErrBytes},
		{"no Count", row(1, 0, 0), 3, api.ErrShort},
		{"the greatest Sum", row(1, 0, 0, 2, mostSum, 0, 0), 16, api.OK},
		{"one beyond it", row(1, 0, 0, 2, mostSum+1, 0, 0), 4, api.ErrBytes},
		{"the least Sum", row(1, 0, 0, 2, -mostSum, 0, 0), 15, api.OK},
		{"one beyond it", row(1, 0, 0, 2, -mostSum-1, 0, 0), 4, api.ErrBytes},
		{"the least Min", row(1, 0, 0, 2, 0, -mostValue, 0), 15, api.OK},
		{"one beyond it", row(1, 0, 0, 2, 0, -mostValue-1, 0), 5, api.ErrBytes},
		{"the greatest Min", row(1, 0, 0, 2, 0, mostValue, mostValue), 23, api.OK},
		{"one beyond it", row(1, 0, 0, 2, 0, mostValue+1, mostValue+1), 5, api.ErrBytes},
		{"the greatest Max", row(1, 0, 0, 2, 0, 0, mostValue), 15, api.OK},
		{"one beyond it", row(1, 0, 0, 2, 0, 0, mostValue+1), 6, api.ErrBytes},
		{"the least Max", row(1, 0, 0, 2, 0, -mostValue, -mostValue), 23, api.OK},
		{"one beyond it", row(1, 0, 0, 2, 0, -mostValue, -mostValue-1), 14, api.ErrBytes},
		{"no Max", row(1, 0, 0, 2, 0, 0), 6, api.ErrShort},
		{"a Min above the Max", row(1, 0, 0, 2, 0, 1, 0), 7, api.ErrBytes},
		{"one of one value with another Sum", row(1, 0, 0, 1, 4, 5, 5), 7, api.ErrBytes},
		{"one of one value with another Min", row(1, 0, 0, 1, 5, 4, 5), 7, api.ErrBytes},
		{"one of one value with another Max", row(1, 0, 0, 1, 5, 5, 6), 7, api.ErrBytes},
		{"one of one value beyond a value", row(1, 0, 0, 1, mostValue+1, mostValue, mostValue), 31, api.ErrBytes},
		{"two cells", row(2, 0, 1, 1, 5, 5, 5, 1, 0, 1, 6, 6, 6), 13, api.OK},
		{"two cells under one key", row(2, 1, 0, 1, 5, 5, 5, 1, 0, 1, 5, 5, 5), 13, api.ErrBytes},
		{"two in the wrong order", row(2, 1, 0, 1, 5, 5, 5, 0, 1, 1, 6, 6, 6), 13, api.ErrBytes},
		{"two in the wrong order of the second code", row(2, 1, 2, 1, 5, 5, 5, 1, 1, 1, 6, 6, 6), 13, api.ErrBytes},
		{"two under 0 and 0", row(2, 0, 0, 1, 5, 5, 5, 0, 0, 1, 6, 6, 6), 13, api.ErrBytes},
		{"a third under the first's key", row(3, 0, 0, 1, 5, 5, 5, 0, 1, 1, 6, 6, 6, 0, 0, 1, 6, 6, 6), 19, api.ErrBytes},
		{"two in the wrong order, cut off", row(2, 1, 0, 1, 5, 5, 5, 0, 1, 1, 6, 6), 12, api.ErrShort},
		{"two in the wrong order, with a Count of 0", row(2, 1, 0, 1, 5, 5, 5, 0, 1, 0, 0, 0, 0), 9, api.ErrBytes},
		{"a second one that may not be, and bytes behind", row(3, 0, 0, 1, 5, 5, 5, 0, 1, 2, 6, 7, 6, 0, 2, 1, 6, 6, 6), 13, api.ErrBytes},
		{"a cell too few", row(2, 0, 0, 1, 5, 5, 5), 7, api.ErrShort},
		{"bytes behind", row(1, 0, 0, 1, 5, 5, 5, 9), 7, api.OK},
	} {
		r := wire.New(x.b)
		c := cuboid.Read(r, 2, 1)
		if (c == nil) != (x.errno != api.OK) || r.At() != x.at || r.Failed() != (x.errno != api.OK) || r.Failed() && r.End() != x.errno {
			t.Errorf("%s: %v, at %d, %v, not at %d, %v", x.about, c, r.At(), r.End(), x.at, x.errno)
		}
		if e := checkRead(t, x.b, 2, 1); e != x.errno {
			t.Errorf("%s: the test's own word is %v", x.about, e)
		}
	}
}

// P10.3: cells that may not be, or are of other measures, at each place.
func TestReadOfOtherCells(t *testing.T) {
	for _, k := range kinds() {
		keys := cube(k[0], 4)[:3]
		for _, x := range slices.Concat(mayBeNone(k[1]), []api.Cell{wide(k[1], 1)}) {
			for place := range keys {
				b := row(len(keys))
				for i, key := range keys {
					if i == place && len(x.Sums) == len(x.Mins) && len(x.Sums) == len(x.Maxs) {
						b = append(b, rowOf(item{key, x})...)
					} else {
						b = append(b, rowOf(item{key, wide(k[1], i)})...)
					}
				}
				checkRead(t, b, k[0], k[1])
			}
		}
		for _, other := range kinds() {
			c, _ := both(t, k[0], k[1], some(k[0], k[1], 6, 4, 2)...)
			checkRead(t, c.Put(nil), other[0], other[1])
		}
	}
}

// P10.3: bytes that are cut off at every place, or with each other byte at every place.
func TestReadOfChangedBytes(t *testing.T) {
	for _, k := range kinds() {
		for _, count := range []int{0, 1, 5} {
			items := some(k[0], k[1], count, 3, count)
			if k[1] == 1 && count > 0 {
				items = append(items, item{slices.Repeat([]int{40}, k[0]), of(mostCount, -mostSum, -mostValue, mostValue)})
			}
			c, _ := both(t, k[0], k[1], items...)
			whole := c.Put(nil)
			for i := range whole {
				if e := checkRead(t, whole[:i], k[0], k[1]); e != api.ErrShort {
					t.Errorf("%d bytes of %v: %v", i, whole, e)
				}
				for b := range 256 {
					changed := bytes.Clone(whole)
					changed[i] = byte(b)
					checkRead(t, changed, k[0], k[1])
				}
				checkRead(t, append(bytes.Clone(whole[:i]), whole[i+1:]...), k[0], k[1])
			}
			checkRead(t, append(whole, 0, 255), k[0], k[1])
		}
	}
}

// P10.3: bytes without a pattern, of few numbers.
func TestReadOfNoise(t *testing.T) {
	some := []byte{0, 0, 2, 2, 2, 2, 4, 4, 4, 1, 6, 80, 128, 82}
	seen := map[api.Errno]int{}
	for seed := range 60000 {
		var b []byte
		for _, n := range noise(seed, 1+seed%16, len(some)) {
			b = append(b, some[n])
		}
		k := kinds()[seed%6]
		seen[checkRead(t, b, k[0], k[1])]++
	}
	if seen[api.OK] < 1000 || seen[api.ErrBytes] < 1000 || seen[api.ErrShort] < 1000 {
		t.Errorf("so many of each: %v", seen)
	}
}

// P10.1 to P10.4: many calls of all kinds, one behind the other, on some cuboids of one width.
func TestManyCalls(t *testing.T) {
	seen := map[api.Errno]int{}
	great := slices.Concat(edges(), []api.Cell{of(1, 0, 0, 0), wide(1, 3), wide(1, 7), wide(1, 20)})
	for seed := range 60 {
		width := 1 + seed%3
		pick := noise(seed, 3000, 1<<16)
		next := func(below int) int {
			n := pick[0] % below
			pick = pick[1:]
			return n
		}
		c, m := both(t, width, 1)
		for range 150 {
			switch next(12) {
			case 0:
				before := c
				c = c.Copy()
				before.Add(make([]int, width), of(1, 3, 3, 3))
			case 1:
				c = cuboid.Read(wire.New(c.Put([]byte{7})[1:]), width, 1)
			case 2:
				ups := same(width)
				for range 3 {
					ups[next(width)][next(4)] = next(4)
				}
				up, rolled, e := checkRoll(t, c, m, ups)
				if seen[e]++; e == api.OK && next(4) == 0 {
					c, m = up, rolled
				}
			default:
				key := make([]int, width+next(20)/19)
				for i := range key {
					key[i] = next(4)
				}
				x := great[next(len(great))]
				_, e := m.with(key, x)
				seen[e]++
				m = add(t, c, m, key, x)
			}
			check(t, "many calls", c, m)
		}
	}
	if seen[api.OK] < 1000 || seen[api.ErrArg] < 100 || seen[api.ErrRange] < 1000 {
		t.Errorf("so many of each: %v", seen)
	}
}

// spoil writes into a list, into the room behind it too, and appends to it.
func spoil(l []int) {
	_ = append(l, 99, 99)
	for i := range all(l) {
		all(l)[i] = 99
	}
	_ = append(l[:0], 99)
}

// spoilCell spoils each list of a cell.
func spoilCell(x api.Cell) {
	spoil(x.Sums)
	spoil(x.Mins)
	spoil(x.Maxs)
}

// R4: what is handed in is not kept: it may be written to behind the call.
func TestNothingIsKept(t *testing.T) {
	for _, k := range kinds() {
		c, m := cuboid.New(k[0], k[1]), model{width: k[0], measures: k[1]}
		for _, x := range some(k[0], k[1], 20, 2, 3) {
			key, y := roomy(x.key, 0), copiedCell(x.x)
			c.Add(key, y)
			m, _ = m.with(x.key, x.x)
			spoil(key)
			spoilCell(y)
			check(t, "behind spoiling what was added", c, m)
		}
		list := []int{5, 5, 5, 5} // one list for all of a cell, and of several cells
		both := api.Cell{Count: 1, Sums: list[:k[1]], Mins: list[:k[1]], Maxs: list[:k[1]]}
		want := one(slices.Repeat([]int{5}, k[1])...)
		for code := range 2 {
			c.Add(slices.Repeat([]int{30 + code}, k[0]), both)
			m, _ = m.with(slices.Repeat([]int{30 + code}, k[0]), want)
		}
		spoil(list)
		check(t, "of one list", c, m)
		ups := copiedUps(same(k[0]))
		up, _ := c.Roll(ups)
		for _, l := range ups {
			spoil(l)
		}
		check(t, "behind spoiling the lists of Roll", up, m)
		b := append(bytes.Clone(c.Put(nil)), 1, 2)
		read := cuboid.Read(wire.New(b), k[0], k[1])
		clear(b)
		check(t, "behind spoiling what was read", read, m)
	}
}

// R4: Get, Keys and Put answer new memory, each list of it on its own.
func TestAnswersAreTheirOwn(t *testing.T) {
	for _, k := range kinds() {
		c, m := both(t, k[0], k[1], some(k[0], k[1], 20, 3, 3)...)
		for _, x := range m.items {
			for list := range 3 {
				first, _ := c.Get(x.key)
				second, _ := c.Get(x.key)
				lists := [][]int{first.Sums, first.Mins, first.Maxs}
				spoil(lists[list])
				for i, want := range [][]int{x.x.Sums, x.x.Mins, x.x.Maxs} {
					if i != list && !slices.Equal(lists[i], want) {
						t.Errorf("Get(%v) has one list at two places", x.key)
					}
				}
				if !sameCell(second, x.x) {
					t.Errorf("Get(%v) has a list of another answer", x.key)
				}
				check(t, "behind spoiling what Get told", c, m)
			}
		}
		for i := range m.items {
			first, second := c.Keys(), c.Keys()
			spoil(first[i])
			for j, key := range keysOf(m) {
				if i != j && !slices.Equal(first[j], key) || !slices.Equal(second[j], key) {
					t.Errorf("Keys has one list at two places")
				}
			}
			check(t, "behind spoiling a key", c, m)
		}
		first := c.Keys()
		_ = append(first, []int{99})
		for i := range all(first) {
			all(first)[i] = []int{99}
		}
		check(t, "behind spoiling Keys", c, m)
		b := c.Put(nil)
		clear(b[:cap(b)])
		check(t, "behind spoiling what was put", c, m)
	}
}

// R4: Copy, Roll and Read answer cuboids that share no list with another one: what one tells can be written to.
func TestCuboidsAreTheirOwn(t *testing.T) {
	for _, k := range kinds() {
		c, m := both(t, k[0], k[1], some(k[0], k[1], 20, 3, 3)...)
		b := c.Put(nil)
		made := func() []*cuboid.Cuboid {
			up, _ := c.Roll(same(k[0]))
			r := wire.New(append(bytes.Clone(b), b...))
			return []*cuboid.Cuboid{c, c.Copy(), c.Copy(), up, cuboid.Read(r, k[0], k[1]), cuboid.Read(r, k[0], k[1]), up.Copy()}
		}
		l := made()
		for _, one := range l {
			for _, x := range m.items {
				got, _ := one.Get(x.key)
				spoilCell(got)
			}
			for _, other := range append(made(), l...) {
				check(t, "behind spoiling another's cells", other, m)
			}
		}
		behind := m
		for i, one := range l {
			also := add(t, one, m, slices.Repeat([]int{i}, k[0]), wide(k[1], 40))
			check(t, "one that has more", one, also)
			for _, other := range l[i+1:] {
				check(t, "one of the others", other, behind)
			}
		}
	}
}

// R4: nil and empty lists are one.
func TestNilAndEmpty(t *testing.T) {
	c := cuboid.New(1, 1)
	if len(c.Keys()) != 0 || !bytes.Equal(c.Put(nil), c.Put([]byte{})) {
		t.Errorf("Keys of no cell is %v", c.Keys())
	}
	for _, l := range [][]int{nil, {}} {
		if _, is := c.Get(l); is || c.Add(l, one(1)) != api.ErrArg {
			t.Errorf("%v is a key", l)
		}
		if up, e := c.Roll([][]int{l}); e != api.OK || up.Len() != 0 {
			t.Errorf("Roll([%v]) of no cell is %v", l, e)
		}
		if e := c.Add([]int{0}, api.Cell{Count: 1, Sums: l, Mins: l, Maxs: l}); e != api.ErrArg {
			t.Errorf("Add of a cell of no measure is %v", e)
		}
	}
	for _, ups := range [][][]int{nil, {}} {
		if up, e := c.Roll(ups); up != nil || e != api.ErrArg {
			t.Errorf("Roll(%v) is %v", ups, e)
		}
	}
}

// R5: the same is told each time, whatever order a map of cells is gone through in.
func TestToldTheSame(t *testing.T) {
	great := of(2, mostSum, mostValue, mostValue)
	for range 50 {
		c, m := both(t, 2, 1, some(2, 1, 30, 6, 8)...)
		check(t, "again", c, m)
		for code := range 6 { // of which some sums may be, and some may not
			c.Add([]int{40, code}, great)
			m, _ = m.with([]int{40, code}, great)
		}
		c.Add([]int{39, 0}, wide(1, 3))
		m, _ = m.with([]int{39, 0}, wide(1, 3))
		ups := same(2)
		ups[1][0], ups[1][1] = 1, 1
		if _, _, e := checkRoll(t, c, m, ups); e != api.ErrRange {
			t.Errorf("Roll is %v", e)
		}
		ups[0][39] = 41
		if _, _, e := checkRoll(t, c, m, ups); e != api.ErrArg {
			t.Errorf("Roll with no code is %v", e)
		}
	}
}
