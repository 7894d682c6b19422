package wide_test

import (
	"cmp"
	"math"
	"math/big"
	"slices"
	"testing"

	"tesseract/api"
	"tesseract/wide"
)

const (
	mostLo = 1<<32 - 1
	mostHi = 1 << 40
)

// noise is numbers of all sizes and both signs without a pattern, the same at each call.
func noise(seed, count int) []int {
	l := make([]int, count)
	x := uint64(seed)*0x9E3779B97F4A7C15 + 12345
	for i := range l {
		x = x*6364136223846793005 + 1442695040888963407
		y := x
		y ^= y >> 29
		y *= 0xBF58476D1CE4E5B9
		l[i] = int(y^y>>32) >> (x >> 58)
	}
	return l
}

// someNumbers is numbers at the edges: all small ones, those beside each power of two, of both signs, and some without a pattern.
func someNumbers() []int {
	l := []int{math.MinInt, math.MinInt + 1, math.MaxInt, math.MaxInt - 1}
	for n := -20; n <= 20; n++ {
		l = append(l, n)
	}
	for i := 5; i < 63; i++ {
		for d := -2; d <= 2; d++ {
			l = append(l, 1<<i+d, -(1<<i + d))
		}
	}
	return append(l, noise(1, 300)...)
}

// someHis is Hi at its edges and beyond, and where a wide number is no int any more.
func someHis() []int {
	l := []int{0, math.MinInt, math.MinInt + 1, math.MaxInt, math.MaxInt - 1, 1 << 62, -1 << 62}
	for _, n := range []int{1, 2, 1 << 30, 1 << 31, 1 << 32, 1 << 33, 1 << 39, mostHi, 1 << 41} {
		l = append(l, n-1, n, n+1, -n-1, -n, -n+1)
	}
	return l
}

// someLos is Lo at its edges and beyond.
func someLos() []int {
	return []int{0, 1, 2, 7, 1<<31 - 1, 1 << 31, 1<<31 + 1, mostLo - 1, mostLo, mostLo + 1, mostLo + 2, 1 << 33, 1 << 62, math.MaxInt, -1, -2, -1 << 31, -mostLo, -1 << 32, -1<<32 - 1, math.MinInt + 1, math.MinInt}
}

// someWides is each of those Hi with each of those Lo: such as may be, and others.
func someWides() []wide.Wide {
	var l []wide.Wide
	for _, hi := range someHis() {
		for _, lo := range someLos() {
			l = append(l, wide.Wide{Hi: hi, Lo: lo})
		}
	}
	return l
}

// those is the wide numbers of a list that may be, each once, by the words of the document.
func those(l []wide.Wide) []wide.Wide {
	var out []wide.Wide
	for _, w := range l {
		if may(w) && !slices.Contains(out, w) {
			out = append(out, w)
		}
	}
	return out
}

// may is whether a wide number may be, held against the edges one by one.
func may(w wide.Wide) bool {
	return cmp.Compare(w.Lo, -1) == 1 && cmp.Compare(w.Lo, 4294967296) == -1 && cmp.Compare(w.Hi, -1099511627777) == 1 && cmp.Compare(w.Hi, 1099511627777) == -1
}

// exact is what a wide number is, in the library's numbers without a bound.
func exact(w wide.Wide) *big.Int {
	x := new(big.Int).Mul(big.NewInt(int64(w.Hi)), big.NewInt(4294967296))
	return x.Add(x, big.NewInt(int64(w.Lo)))
}

// exactTotal is the sum of numbers, in the library's numbers without a bound.
func exactTotal(l []int) *big.Int {
	x := new(big.Int)
	for _, n := range l {
		x.Add(x, big.NewInt(int64(n)))
	}
	return x
}

// least and most are the ends of the wide numbers that may be.
func least() *big.Int { return new(big.Int).Neg(new(big.Int).Lsh(big.NewInt(1), 72)) }

func most() *big.Int {
	return new(big.Int).Add(new(big.Int).Lsh(big.NewInt(1), 72), big.NewInt(4294967295))
}

// wanted is the wide number of a sum, or that it may not be.
func wanted(x *big.Int) (wide.Wide, api.Errno) {
	if x.Cmp(least()) < 0 || x.Cmp(most()) > 0 {
		return wide.Wide{}, api.ErrRange
	}
	hi, lo := new(big.Int).DivMod(x, big.NewInt(4294967296), new(big.Int))
	return wide.Wide{Hi: int(hi.Int64()), Lo: int(lo.Int64())}, api.OK
}

// sumWanted is what Add is to answer.
func sumWanted(a, b wide.Wide) (wide.Wide, api.Errno) {
	if !may(a) || !may(b) {
		return wide.Wide{}, api.ErrArg
	}
	return wanted(new(big.Int).Add(exact(a), exact(b)))
}

// intWanted is what Int is to answer.
func intWanted(w wide.Wide) (int, api.Errno) {
	switch x := exact(w); {
	case !may(w):
		return 0, api.ErrArg
	case !x.IsInt64():
		return 0, api.ErrRange
	default:
		return int(x.Int64()), api.OK
	}
}

// checkAdd asks Add in both orders, and holds the answers against what is wanted.
func checkAdd(t *testing.T, a, b, want wide.Wide, errno api.Errno) {
	t.Helper()
	if got, e := wide.Add(a, b); got != want || e != errno {
		t.Errorf("Add(%v, %v) is %v, %v, not %v, %v", a, b, got, e, want, errno)
	}
	if got, e := wide.Add(b, a); got != want || e != errno {
		t.Errorf("Add(%v, %v) is %v, %v, not %v, %v", b, a, got, e, want, errno)
	}
}

// checkInt asks Int, and holds the answer against what is wanted.
func checkInt(t *testing.T, w wide.Wide, want int, errno api.Errno) {
	t.Helper()
	if got, e := wide.Int(w); got != want || e != errno {
		t.Errorf("Int(%v) is %d, %v, not %d, %v", w, got, e, want, errno)
	}
}

// checkTotal asks Total, and holds the answer against what is wanted, and the list against what it was.
func checkTotal(t *testing.T, what string, l []int, want wide.Wide, errno api.Errno) {
	t.Helper()
	before := slices.Clone(l)
	if got, e := wide.Total(l); got != want || e != errno {
		t.Errorf("%s: Total is %v, %v, not %v, %v", what, got, e, want, errno)
	}
	if !slices.Equal(l, before) {
		t.Errorf("%s: the list changed", what)
	}
}

// times is a number so many times.
func times(n, count int) []int { return slices.Repeat([]int{n}, count) }

// P4.1: the examples, and each edge of Of, there and back.
func TestOfEdges(t *testing.T) {
	for _, x := range []struct {
		n    int
		want wide.Wide
	}{
		{0, wide.Wide{}},
		{1, wide.Wide{Lo: 1}},
		{-1, wide.Wide{Hi: -1, Lo: mostLo}},
		{1<<31 - 1, wide.Wide{Lo: 1<<31 - 1}},
		{1 << 31, wide.Wide{Lo: 1 << 31}},
		{-1 << 31, wide.Wide{Hi: -1, Lo: 1 << 31}},
		{1<<32 - 1, wide.Wide{Lo: mostLo}},
		{1 << 32, wide.Wide{Hi: 1}},
		{1<<32 + 1, wide.Wide{Hi: 1, Lo: 1}},
		{-1<<32 + 1, wide.Wide{Hi: -1, Lo: 1}},
		{-1 << 32, wide.Wide{Hi: -1}},
		{-1<<32 - 1, wide.Wide{Hi: -2, Lo: mostLo}},
		{1<<40 + 5, wide.Wide{Hi: 256, Lo: 5}},
		{-1<<40 - 5, wide.Wide{Hi: -257, Lo: mostLo - 4}},
		{api.MaxSum, wide.Wide{Hi: 1 << 30}},
		{-api.MaxSum, wide.Wide{Hi: -1 << 30}},
		{math.MaxInt - 1, wide.Wide{Hi: 1<<31 - 1, Lo: mostLo - 1}},
		{math.MaxInt, wide.Wide{Hi: 1<<31 - 1, Lo: mostLo}},
		{math.MinInt + 1, wide.Wide{Hi: -1 << 31, Lo: 1}},
		{math.MinInt, wide.Wide{Hi: -1 << 31}},
	} {
		if got := wide.Of(x.n); got != x.want {
			t.Errorf("Of(%d) is %v, not %v", x.n, got, x.want)
		}
		checkInt(t, x.want, x.n, api.OK)
	}
}

// P4.1: Of is the number, it may be, and Int is the number again.
func TestOfAllSizes(t *testing.T) {
	for _, n := range someNumbers() {
		w := wide.Of(n)
		if exact(w).Cmp(big.NewInt(int64(n))) != 0 || !may(w) || !wide.May(w) {
			t.Errorf("Of(%d) is %v", n, w)
		}
		checkInt(t, w, n, api.OK)
	}
}

// P4.1: what may be, and what is one beyond.
func TestMayOfEdges(t *testing.T) {
	for _, x := range []struct {
		w    wide.Wide
		want bool
	}{
		{wide.Wide{}, true},
		{wide.Wide{Lo: mostLo}, true},
		{wide.Wide{Lo: 1 << 32}, false},
		{wide.Wide{Lo: -1}, false},
		{wide.Wide{Hi: -1, Lo: mostLo}, true},
		{wide.Wide{Hi: -1, Lo: -1}, false},
		{wide.Wide{Hi: mostHi}, true},
		{wide.Wide{Hi: mostHi, Lo: mostLo}, true},
		{wide.Wide{Hi: mostHi, Lo: mostLo + 1}, false},
		{wide.Wide{Hi: mostHi + 1}, false},
		{wide.Wide{Hi: mostHi + 1, Lo: -1}, false},
		{wide.Wide{Hi: -mostHi}, true},
		{wide.Wide{Hi: -mostHi, Lo: mostLo}, true},
		{wide.Wide{Hi: -mostHi, Lo: -1}, false},
		{wide.Wide{Hi: -mostHi - 1}, false},
		{wide.Wide{Hi: -mostHi - 1, Lo: mostLo}, false},
		{wide.Wide{Hi: math.MaxInt}, false},
		{wide.Wide{Hi: math.MinInt}, false},
		{wide.Wide{Lo: math.MaxInt}, false},
		{wide.Wide{Lo: math.MinInt}, false},
		{wide.Wide{Hi: math.MinInt, Lo: math.MaxInt}, false},
	} {
		if got := wide.May(x.w); got != x.want {
			t.Errorf("May(%v) is %v", x.w, got)
		}
	}
}

// P4.1 and R1: May and Int of each Hi with each Lo, such as may be and others.
func TestMayAndIntOfAll(t *testing.T) {
	for _, w := range someWides() {
		if got := wide.May(w); got != may(w) {
			t.Errorf("May(%v) is %v", w, got)
		}
		n, errno := intWanted(w)
		checkInt(t, w, n, errno)
	}
}

// P4.1: the wide numbers about the ends of the ints, and those whose Hi, but for bits that an int has no room for, would be one's.
func TestIntOfEdges(t *testing.T) {
	for _, x := range []struct {
		w     wide.Wide
		want  int
		errno api.Errno
	}{
		{wide.Wide{Hi: 1<<31 - 1, Lo: mostLo}, math.MaxInt, api.OK},
		{wide.Wide{Hi: 1 << 31}, 0, api.ErrRange},
		{wide.Wide{Hi: 1 << 31, Lo: 1}, 0, api.ErrRange},
		{wide.Wide{Hi: -1 << 31}, math.MinInt, api.OK},
		{wide.Wide{Hi: -1<<31 - 1, Lo: mostLo}, 0, api.ErrRange},
		{wide.Wide{Hi: -1<<31 - 1}, 0, api.ErrRange},
		{wide.Wide{Hi: 1 << 32, Lo: 5}, 0, api.ErrRange},
		{wide.Wide{Hi: -1 << 32, Lo: 5}, 0, api.ErrRange},
		{wide.Wide{Hi: 1<<32 - 1, Lo: 7}, 0, api.ErrRange},
		{wide.Wide{Hi: mostHi}, 0, api.ErrRange},
		{wide.Wide{Hi: mostHi, Lo: mostLo}, 0, api.ErrRange},
		{wide.Wide{Hi: -mostHi}, 0, api.ErrRange},
		{wide.Wide{Hi: mostHi + 1}, 0, api.ErrArg},
		{wide.Wide{Hi: -mostHi - 1}, 0, api.ErrArg},
		{wide.Wide{Lo: -1}, 0, api.ErrArg},
		{wide.Wide{Lo: 1 << 32}, 0, api.ErrArg},
		{wide.Wide{Hi: 1 << 31, Lo: -1}, 0, api.ErrArg},
		{wide.Wide{Hi: math.MaxInt, Lo: math.MaxInt}, 0, api.ErrArg},
		{wide.Wide{Hi: math.MinInt, Lo: math.MinInt}, 0, api.ErrArg},
	} {
		checkInt(t, x.w, x.want, x.errno)
	}
}

// P4.2: sums of numbers are those of the numbers, beyond an int too.
func TestAddOfNumbers(t *testing.T) {
	for _, a := range someNumbers() {
		for _, b := range []int{0, 1, -1, 5, -5, 1 << 31, 1<<32 - 1, 1 << 32, -1 << 32, -1<<32 + 1, 1 << 62, math.MaxInt, math.MinInt, a, -a} {
			want, errno := wanted(exactTotal([]int{a, b}))
			checkAdd(t, wide.Of(a), wide.Of(b), want, errno)
		}
	}
}

// P4.2: sums that carry, and such as just may be, or may not be, at either end.
func TestAddOfEdges(t *testing.T) {
	for _, x := range []struct {
		a, b, want wide.Wide
		errno      api.Errno
	}{
		{wide.Wide{}, wide.Wide{}, wide.Wide{}, api.OK},
		{wide.Wide{Lo: mostLo}, wide.Wide{Lo: 1}, wide.Wide{Hi: 1}, api.OK},
		{wide.Wide{Lo: mostLo}, wide.Wide{Lo: mostLo}, wide.Wide{Hi: 1, Lo: mostLo - 1}, api.OK},
		{wide.Wide{Lo: 1 << 31}, wide.Wide{Lo: 1<<31 - 1}, wide.Wide{Lo: mostLo}, api.OK},
		{wide.Wide{Hi: -1, Lo: mostLo}, wide.Wide{Lo: 1}, wide.Wide{}, api.OK},
		{wide.Wide{Hi: -1, Lo: mostLo}, wide.Wide{Hi: -1, Lo: mostLo}, wide.Wide{Hi: -1, Lo: mostLo - 1}, api.OK},
		{wide.Wide{Hi: mostHi, Lo: mostLo}, wide.Wide{}, wide.Wide{Hi: mostHi, Lo: mostLo}, api.OK},
		{wide.Wide{Hi: mostHi, Lo: mostLo - 1}, wide.Wide{Lo: 1}, wide.Wide{Hi: mostHi, Lo: mostLo}, api.OK},
		{wide.Wide{Hi: mostHi, Lo: mostLo}, wide.Wide{Lo: 1}, wide.Wide{}, api.ErrRange},
		{wide.Wide{Hi: mostHi}, wide.Wide{Hi: 1}, wide.Wide{}, api.ErrRange},
		{wide.Wide{Hi: mostHi - 1, Lo: 1}, wide.Wide{Lo: mostLo}, wide.Wide{Hi: mostHi}, api.OK},
		{wide.Wide{Hi: mostHi, Lo: mostLo}, wide.Wide{Hi: mostHi, Lo: mostLo}, wide.Wide{}, api.ErrRange},
		{wide.Wide{Hi: mostHi / 2, Lo: 1 << 31}, wide.Wide{Hi: mostHi / 2, Lo: 1<<31 - 1}, wide.Wide{Hi: mostHi, Lo: mostLo}, api.OK},
		{wide.Wide{Hi: mostHi / 2, Lo: 1 << 31}, wide.Wide{Hi: mostHi / 2, Lo: 1 << 31}, wide.Wide{}, api.ErrRange},
		{wide.Wide{Hi: -mostHi}, wide.Wide{}, wide.Wide{Hi: -mostHi}, api.OK},
		{wide.Wide{Hi: -mostHi, Lo: 1}, wide.Wide{Hi: -1, Lo: mostLo}, wide.Wide{Hi: -mostHi}, api.OK},
		{wide.Wide{Hi: -mostHi}, wide.Wide{Hi: -1, Lo: mostLo}, wide.Wide{}, api.ErrRange},
		{wide.Wide{Hi: -mostHi, Lo: mostLo}, wide.Wide{Hi: -1, Lo: 1}, wide.Wide{Hi: -mostHi}, api.OK},
		{wide.Wide{Hi: -mostHi, Lo: mostLo}, wide.Wide{Hi: -1}, wide.Wide{}, api.ErrRange},
		{wide.Wide{Hi: -mostHi}, wide.Wide{Hi: -mostHi}, wide.Wide{}, api.ErrRange},
		{wide.Wide{Hi: -mostHi}, wide.Wide{Hi: mostHi, Lo: mostLo}, wide.Wide{Lo: mostLo}, api.OK},
	} {
		checkAdd(t, x.a, x.b, x.want, x.errno)
	}
}

// P4.2 and R2: one that may not be, as the first, the second or both: ErrArg, even where the sum would be out of range, or would be such as may be.
func TestAddOfWrongOnes(t *testing.T) {
	wrong := []wide.Wide{{Lo: -1}, {Lo: 1 << 32}, {Hi: 1, Lo: -1}, {Hi: mostHi + 1}, {Hi: -mostHi - 1}, {Hi: -mostHi - 1, Lo: mostLo}, {Hi: math.MaxInt}, {Hi: math.MinInt}, {Lo: math.MaxInt}, {Lo: math.MinInt}, {Hi: math.MinInt, Lo: math.MinInt}}
	for _, a := range wrong {
		for _, b := range []wide.Wide{{}, {Lo: 1}, {Hi: -1, Lo: mostLo}, {Hi: 1}, {Hi: mostHi, Lo: mostLo}, {Hi: -mostHi}} {
			checkAdd(t, a, b, wide.Wide{}, api.ErrArg)
		}
		for _, b := range wrong {
			checkAdd(t, a, b, wide.Wide{}, api.ErrArg)
		}
	}
}

// P4.2 and R1: sums of any two.
func TestAddOfAll(t *testing.T) {
	l := someWides()
	right := those(l)
	for _, a := range right {
		for _, b := range right {
			want, errno := sumWanted(a, b)
			checkAdd(t, a, b, want, errno)
		}
	}
	for i, a := range l {
		for j := i % 7; j < len(l); j += 7 {
			want, errno := sumWanted(a, l[j])
			checkAdd(t, a, l[j], want, errno)
		}
	}
}

// P4.2: the sum of no number, of one, and of a few.
func TestTotalOfFew(t *testing.T) {
	checkTotal(t, "nil", nil, wide.Wide{}, api.OK)
	checkTotal(t, "empty", []int{}, wide.Wide{}, api.OK)
	checkTotal(t, "the example", []int{math.MaxInt, 1, 1}, wide.Wide{Hi: 1 << 31, Lo: 1}, api.OK)
	checkTotal(t, "below all ints", []int{math.MinInt, -1}, wide.Wide{Hi: -1<<31 - 1, Lo: mostLo}, api.OK)
	checkTotal(t, "up and down", []int{math.MaxInt, math.MaxInt, math.MinInt, math.MinInt}, wide.Of(-2), api.OK)
	for _, n := range someNumbers() {
		checkTotal(t, "one", []int{n}, wide.Of(n), api.OK)
		for _, m := range []int{n, -n, 1, -1, math.MaxInt, math.MinInt} {
			want, errno := wanted(exactTotal([]int{n, m}))
			checkTotal(t, "two", []int{n, m}, want, errno)
		}
	}
}

// P4.2: sums of many numbers of all sizes.
func TestTotalOfMany(t *testing.T) {
	for seed := range 50 {
		for _, count := range []int{3, 10, 100, 3000} {
			l := noise(seed, count)
			want, errno := wanted(exactTotal(l))
			checkTotal(t, "many", l, want, errno)
		}
	}
	checkTotal(t, "the greatest Lo, very often", times(mostLo, 1<<20), wide.Wide{Hi: mostLo >> 12, Lo: 1<<32 - 1<<20}, api.OK)
	checkTotal(t, "-1, very often", times(-1, 1<<20), wide.Of(-1<<20), api.OK)
}

// P4.2: sums that just may be, and that may not be, at either end, and such as are far beyond.
func TestTotalAtTheEnds(t *testing.T) {
	atMost := append(times(math.MaxInt, 512), 512+mostLo)
	checkTotal(t, "the greatest", atMost, wide.Wide{Hi: mostHi, Lo: mostLo}, api.OK)
	checkTotal(t, "one above", append(slices.Clone(atMost), 1), wide.Wide{}, api.ErrRange)
	checkTotal(t, "one above, and back", append(slices.Clone(atMost), 1, -1), wide.Wide{Hi: mostHi, Lo: mostLo}, api.OK)
	atLeast := times(math.MinInt, 512)
	checkTotal(t, "the least", atLeast, wide.Wide{Hi: -mostHi}, api.OK)
	checkTotal(t, "one below", append(slices.Clone(atLeast), -1), wide.Wide{}, api.ErrRange)
	checkTotal(t, "one below, and back", append(slices.Clone(atLeast), -1, 1), wide.Wide{Hi: -mostHi}, api.OK)
	for _, n := range []int{math.MaxInt, math.MinInt} {
		for _, count := range []int{511, 512, 513, 600, 1024, 1 << 16, 1 << 20} {
			want, errno := wanted(new(big.Int).Mul(big.NewInt(int64(n)), big.NewInt(int64(count))))
			checkTotal(t, "one number, often", times(n, count), want, errno)
		}
	}
}

// P4.2: the whole sum may be, while parts of it may not: ahead, behind and in the midst; and the other way round.
func TestTotalOfPartsBeyond(t *testing.T) {
	for _, count := range []int{513, 600, 5000, 1 << 18} {
		up, down := times(math.MaxInt, count), times(math.MinInt, count)
		checkTotal(t, "up, then down", slices.Concat(up, down), wide.Of(-count), api.OK)
		checkTotal(t, "down, then up", slices.Concat(down, up), wide.Of(-count), api.OK)
		checkTotal(t, "down, up twice, down", slices.Concat(down, up, up, down), wide.Of(-2*count), api.OK)
		checkTotal(t, "a number in the midst", slices.Concat(up, []int{count + 7}, down), wide.Of(7), api.OK)
		checkTotal(t, "up twice, then down", slices.Concat(up, up, down), wide.Wide{}, api.ErrRange)
		checkTotal(t, "down twice, then up", slices.Concat(down, up, down), wide.Wide{}, api.ErrRange)
	}
}

// R4 and R5: the list, what stands about it, and its spare room are as they were, and no matter; each call tells the same.
func TestTotalChangesNothing(t *testing.T) {
	for _, around := range [][]int{noise(1, 40), times(math.MaxInt, 1200)} {
		before := slices.Clone(around)
		end := len(around) - 10
		want, errno := wanted(exactTotal(around[5:end]))
		for range 3 {
			checkTotal(t, "a piece", around[5:end], want, errno)
			checkTotal(t, "a piece without room", around[5:end:end], want, errno)
		}
		if !slices.Equal(around, before) {
			t.Errorf("what stands about the list changed")
		}
	}
}

// P4.3: any two, such as may be and others.
func TestCmpOfAll(t *testing.T) {
	l := someWides()
	for _, a := range l {
		for _, b := range l {
			want := cmp.Or(cmp.Compare(a.Hi, b.Hi), cmp.Compare(a.Lo, b.Lo))
			if got := wide.Cmp(a, b); got != want {
				t.Errorf("Cmp(%v, %v) is %d, not %d", a, b, got, want)
			}
		}
	}
}

// P4.3: Hi goes ahead of Lo, and both stand as they are: nothing is carried, nothing wraps round.
func TestCmpOfEdges(t *testing.T) {
	for _, x := range []struct {
		a, b wide.Wide
		want int
	}{
		{wide.Wide{}, wide.Wide{}, 0},
		{wide.Wide{Lo: 1}, wide.Wide{}, 1},
		{wide.Wide{Hi: 1}, wide.Wide{Lo: mostLo}, 1},
		{wide.Wide{Hi: -1, Lo: mostLo}, wide.Wide{}, -1},
		{wide.Wide{Hi: -2, Lo: 5}, wide.Wide{Hi: -1, Lo: 3}, -1},
		{wide.Wide{Hi: 7, Lo: 5}, wide.Wide{Hi: 7, Lo: 6}, -1},
		{wide.Wide{Lo: 1 << 32}, wide.Wide{Hi: 1}, -1},
		{wide.Wide{Lo: -1}, wide.Wide{Hi: -1, Lo: mostLo}, 1},
		{wide.Wide{Lo: -1}, wide.Wide{}, -1},
		{wide.Wide{Hi: mostHi + 1}, wide.Wide{Hi: mostHi + 1}, 0},
		{wide.Wide{Hi: mostHi + 1}, wide.Wide{Hi: mostHi + 2}, -1},
		{wide.Wide{Hi: math.MinInt}, wide.Wide{Hi: math.MaxInt}, -1},
		{wide.Wide{Lo: math.MinInt}, wide.Wide{Lo: math.MaxInt}, -1},
		{wide.Wide{Hi: math.MaxInt, Lo: math.MinInt}, wide.Wide{Hi: math.MaxInt - 1, Lo: math.MaxInt}, 1},
	} {
		if got := wide.Cmp(x.a, x.b); got != x.want {
			t.Errorf("Cmp(%v, %v) is %d, not %d", x.a, x.b, got, x.want)
		}
		if got := wide.Cmp(x.b, x.a); got != -x.want {
			t.Errorf("Cmp(%v, %v) is %d, not %d", x.b, x.a, got, -x.want)
		}
	}
}

// P4.4: of those that may be Cmp is the order of the numbers.
func TestCmpIsTheOrderOfNumbers(t *testing.T) {
	l := those(someWides())
	for _, a := range l {
		for _, b := range l {
			if got := wide.Cmp(a, b); got != exact(a).Cmp(exact(b)) {
				t.Errorf("Cmp(%v, %v) is %d", a, b, got)
			}
		}
	}
	numbers := someNumbers()
	for _, a := range numbers {
		for _, b := range numbers {
			if got := wide.Cmp(wide.Of(a), wide.Of(b)); got != cmp.Compare(a, b) {
				t.Errorf("Cmp of %d and %d is %d", a, b, got)
			}
		}
	}
	slices.SortFunc(l, wide.Cmp)
	if !slices.IsSortedFunc(l, func(a, b wide.Wide) int { return exact(a).Cmp(exact(b)) }) {
		t.Errorf("sorted by Cmp they are in no order of the numbers")
	}
}

// addUp adds numbers one by one.
func addUp(t *testing.T, l []int) wide.Wide {
	t.Helper()
	sum := wide.Wide{}
	for _, n := range l {
		var e api.Errno
		if sum, e = wide.Add(sum, wide.Of(n)); e != api.OK {
			t.Fatalf("a part may not be: %v", e)
		}
	}
	return sum
}

// P4.4: a sum hangs on no order, and on no grouping, if its parts may be.
func TestSumsHangOnNoOrder(t *testing.T) {
	for seed := range 40 {
		l := append(noise(seed, 60), math.MaxInt, math.MaxInt, math.MinInt, mostLo, -1)
		want, _ := wanted(exactTotal(l))
		back := slices.Clone(l)
		slices.Reverse(back)
		rising := slices.Sorted(slices.Values(l))
		for _, x := range [][]int{l, back, rising, slices.Concat(l[seed:], l[:seed])} {
			checkTotal(t, "an order", x, want, api.OK)
			if got := addUp(t, x); got != want {
				t.Errorf("seed %d: added up one by one %v, not %v", seed, got, want)
			}
			checkAdd(t, addUp(t, x[:seed]), addUp(t, x[seed:]), want, api.OK)
		}
	}
}

// P4.4: of three that may be, both ways to put the brackets tell the same, if both parts may be.
func TestAddOfThree(t *testing.T) {
	l := []wide.Wide{{}, {Lo: 1}, {Lo: mostLo}, {Hi: -1, Lo: mostLo}, {Hi: 1 << 31}, {Hi: -1 << 31, Lo: 9}, {Hi: mostHi - 1}, {Hi: mostHi, Lo: mostLo}, {Hi: -mostHi}, {Hi: -mostHi, Lo: mostLo}}
	for _, a := range l {
		for _, b := range l {
			for _, c := range l {
				ab, first := wide.Add(a, b)
				bc, second := wide.Add(b, c)
				if first != api.OK || second != api.OK {
					continue
				}
				left, e1 := wide.Add(ab, c)
				right, e2 := wide.Add(a, bc)
				if left != right || e1 != e2 {
					t.Errorf("%v, %v, %v: %v, %v, and %v, %v", a, b, c, left, e1, right, e2)
				}
			}
		}
	}
}

// P4.4 and P4.1: what was added up beyond an int and came back is the number.
func TestThereAndBack(t *testing.T) {
	for _, n := range someNumbers() {
		for _, w := range []wide.Wide{{Hi: 1 << 33, Lo: 17}, {Hi: -1 << 33, Lo: mostLo}, {Hi: mostHi >> 1, Lo: 1}} {
			away, e := wide.Add(wide.Of(n), w)
			if e != api.OK {
				t.Fatalf("Add of %d and %v: %v", n, w, e)
			}
			checkInt(t, away, 0, api.ErrRange)
			back, _ := wanted(new(big.Int).Neg(exact(w)))
			checkAdd(t, away, back, wide.Of(n), api.OK)
		}
	}
}
