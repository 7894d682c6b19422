package query_test

import (
	"bytes"
	"math"
	"slices"
	"strings"
	"testing"

	"tesseract/api"
	"tesseract/query"
	"tesseract/wire"
)

// checkPut asks Put, behind no byte, behind some, and behind some that have others in the room behind them; of a query as it is, and with room behind its lists.
func checkPut(t *testing.T, q api.Query) {
	t.Helper()
	errno := api.OK
	if !isPlain(q) {
		errno = api.ErrQuery
	}
	mine := roomy(q)
	for _, b := range [][]byte{nil, {}, {9}, {1, 2, 3, 255, 0}, bytes.Repeat([]byte{7}, 200)} {
		var want []byte
		if errno == api.OK {
			want = bytesOf(b, q)
		}
		for _, room := range []int{0, 1, 5, 2000} {
			whole := append(append(make([]byte, 0, len(b)+room), b...), bytes.Repeat([]byte{88}, room)...)
			for _, q := range []api.Query{q, mine} {
				got, e := query.Put(whole[:len(b)], q)
				if !bytes.Equal(got, want) || e != errno || e != api.OK && got != nil {
					t.Errorf("Put(%v, %v) is %v, %v, not %v, %v", b, q, got, e, want, errno)
				}
				apart(t, "Put", []any{got}, whole)
				spoil(got)
			}
			if !bytes.Equal(whole[:len(b)], b) || bytes.ContainsFunc(whole[len(b):], func(c rune) bool { return c != 88 }) {
				t.Errorf("Put behind %v changed it, or the room behind it, to %v", b, whole)
			}
		}
	}
	if !sameWithRoom(mine, roomy(q)) {
		t.Errorf("%v is changed to %v", q, mine)
	}
}

// The document's example, as bytes.
func TestExampleAsBytes(t *testing.T) {
	q := group([]int{1, 0}, filter(1, 2, "a/x"))
	want := []byte{4, 2, 0, 2, 2, 4, 2, 6, 'a', '/', 'x'}
	b, e := query.Put(nil, q)
	if !bytes.Equal(b, want) || e != api.OK {
		t.Errorf("Put is %v, %v", b, e)
	}
	r := wire.New(want)
	if got := query.Read(r); !same(got, q) || r.End() != api.OK {
		t.Errorf("Read is %v, %v", got, r.End())
	}
	checkPut(t, q)
	checkRead(t, want)
}

// P12.3: Put of queries that are plain, of each number of what they have.
func TestPut(t *testing.T) {
	for _, q := range plains() {
		if !isPlain(q) {
			t.Fatalf("the test's own word on %v is that it is not plain", q)
		}
		checkPut(t, q)
	}
	for _, x := range []struct {
		q    api.Query
		want []byte
	}{
		{api.Query{}, []byte{0, 0}},
		{group([]int{0}), []byte{2, 0, 0}},
		{group([]int{3, 2, 1}), []byte{6, 6, 4, 2, 0}},
		{group(nil, api.Filter{}), []byte{0, 2, 0, 0, 0}},
		{group(nil, api.Filter{}, api.Filter{Dim: 2, Level: 3}, api.Filter{Dim: 1}), []byte{0, 6, 0, 0, 0, 4, 6, 0, 2, 0, 0}},
		{group(nil, filter(0, 0, "*")), []byte{0, 2, 0, 0, 2, 2, '*'}},
		{group(nil, filter(2, 3, "* a a/b -/_/0")), []byte{0, 2, 4, 6, 8, 2, '*', 2, 'a', 6, 'a', '/', 'b', 10, '-', '/', '_', '/', '0'}},
		{group([]int{2}, filter(1, 1, "a b"), filter(0, 2, "c")), []byte{2, 4, 4, 2, 2, 4, 2, 'a', 2, 'b', 0, 4, 2, 2, 'c'}},
	} {
		if got, e := query.Put(nil, x.q); !bytes.Equal(got, x.want) || e != api.OK {
			t.Errorf("Put(none, %v) is %v, %v, not %v", x.q, got, e, x.want)
		}
	}
	if got, e := query.Put(nil, greatest()); len(got) != 1+mostDims+1+mostFilters*(3+mostMembers*(1+mostText)) || e != api.OK {
		t.Errorf("Put of the greatest query: %d bytes, %v", len(got), e)
	}
}

// P12.3: Put of queries that are not plain, for each bound.
func TestPutOfAmiss(t *testing.T) {
	for _, q := range amiss() {
		if isPlain(q) {
			t.Fatalf("the test's own word on %v is that it is plain", q)
		}
		if got, e := query.Put([]byte{1, 2}, q); got != nil || e != api.ErrQuery {
			t.Errorf("Put of %v is %v, %v", q, got, e)
		}
		if len(q.Filters) > 0 && len(q.Filters[0].Members) < 100 {
			checkPut(t, q)
		}
	}
	for n := range 6 { // of each number of Group's, of Filters, of Members up to 9, and of names
		for m := range 6 {
			for members := range 10 {
				f := api.Filter{Members: slices.Repeat([][]string{slices.Repeat([]string{longest}, m)}, members)}
				q := group(make([]int, n), f)
				want := api.ErrQuery
				if n <= 3 && members <= 6 && (m <= 3 || members == 0) {
					want = api.OK
				}
				if _, e := query.Put(nil, q); e != want {
					t.Errorf("Put of %d numbers, %d members of %d names is %v, not %v", n, members, m, e, want)
				}
			}
			want := api.ErrQuery
			if n <= 3 && m <= 3 {
				want = api.OK
			}
			if _, e := query.Put(nil, group(make([]int, n), make([]api.Filter, m)...)); e != want {
				t.Errorf("Put of %d numbers, %d filters is %v, not %v", n, m, e, want)
			}
		}
	}
	for n := -2; n < 6; n++ { // of each number at each place
		for place := range 3 {
			q, dim, level := group([]int{1, 1, 1}), group(nil, make([]api.Filter, 3)...), group(nil, make([]api.Filter, 3)...)
			q.Group[place], dim.Filters[place].Dim, level.Filters[place].Level = n, n, n
			for _, x := range []struct {
				q    api.Query
				most int
			}{{q, 3}, {dim, 2}, {level, 3}} {
				want := api.ErrQuery
				if n >= 0 && n <= x.most {
					want = api.OK
				}
				if _, e := query.Put(nil, x.q); e != want {
					t.Errorf("Put of %v is %v, not %v", x.q, e, want)
				}
			}
		}
	}
	for b := range 256 {
		name := "a" + string([]byte{byte(b)})
		checkPut(t, group(nil, api.Filter{Members: [][]string{{"b"}, {"a", name}}}))
	}
}

// P12.3: what stands in the room behind lists is not asked, and not put.
func TestPutOfRoom(t *testing.T) {
	q := api.Query{Group: []int{1, 2, 3, 9}[:3], Filters: slices.Repeat([]api.Filter{{Members: slices.Repeat(paths("a"), 7)[:6]}}, 4)[:3]}
	q.Filters[0].Members[0] = []string{"a", "b", "c", "D"}[:3]
	if got, e := query.Put(nil, q); !bytes.Equal(got, bytesOf(nil, q)) || e != api.OK {
		t.Errorf("Put of a query with more in the room behind is %v, %v", got, e)
	}
}

// checkRead holds Read of bytes, with a number ahead, against read: the query, the place, and the error, which stays. It tells the error.
func checkRead(t *testing.T, b []byte) api.Errno {
	t.Helper()
	all := append([]byte{3}, b...)
	before := bytes.Clone(all)
	r := wire.New(all)
	r.Int(-2, -2)
	want, at, errno := read(b)
	got := query.Read(r)
	if !same(got, want) || r.At() != at+1 || r.Failed() != (errno != api.OK) {
		t.Fatalf("Read of %v is %v, at %d, %v, not %v, at %d, %v", b, got, r.At()-1, r.End(), want, at, errno)
	}
	if errno != api.OK && (!isZero(got) || r.End() != errno) {
		t.Fatalf("Read of %v is %v, %v, not %v", b, got, r.End(), errno)
	}
	if errno == api.OK && (r.End() == api.OK) != (at == len(b)) {
		t.Fatalf("Read of %v, to %d: %v", b, at, r.End())
	}
	if !bytes.Equal(all, before) {
		t.Fatalf("Read changed %v to %v", before, all)
	}
	if errno == api.OK {
		if again, e := query.Put(nil, got); !bytes.Equal(again, b[:at]) || e != api.OK {
			t.Fatalf("what is read of %v is put as %v, %v", b, again, e)
		}
	}
	return errno
}

// P12.3 and P12.4: what was put is read, with bytes ahead and behind, which stay to be read.
func TestReadOfPut(t *testing.T) {
	for _, q := range plains() {
		for _, ahead := range []int{0, 1, -65} {
			for _, behind := range [][]byte{nil, {0}, {255}, {2, 0, 2, 'a'}, {128}, bytes.Repeat([]byte{2}, 50)} {
				start := wire.PutInt(nil, ahead)
				whole, e := query.Put(start, q)
				if e != api.OK {
					t.Fatalf("Put of %v is %v", q, e)
				}
				r := wire.New(append(bytes.Clone(whole), behind...))
				r.Int(ahead, ahead)
				got := query.Read(r)
				if !same(got, q) || r.Failed() || r.At() != len(whole) {
					t.Fatalf("Read of %v is %v, at %d, %v, not %v", whole, got, r.At(), r.End(), q)
				}
				if (r.End() == api.OK) != (len(behind) == 0) {
					t.Errorf("%v behind it: %v", behind, r.End())
				}
			}
		}
	}
}

// P12.3: several, one behind the other, and what stands behind them.
func TestReadOfSeveral(t *testing.T) {
	l := []api.Query{group([]int{1, 0}, filter(1, 2, "a/x b/x")), {}, greatest(), group([]int{3}), group(nil, filter(2, 0, ""))}
	var b []byte
	for _, q := range l {
		b, _ = query.Put(b, q)
	}
	r := wire.New(wire.PutText(b, "ab"))
	for i, q := range l {
		if got := query.Read(r); !same(got, q) || r.Failed() {
			t.Errorf("number %d is %v, %v, not %v", i, got, r.End(), q)
		}
	}
	if s := r.Text(2); s != "ab" || r.End() != api.OK {
		t.Errorf("behind them is %q, %v", s, r.End())
	}
}

// P12.3: no reader, one that has an error already, and one that is at its end.
func TestReadOfNoReader(t *testing.T) {
	if q := query.Read(nil); !isZero(q) {
		t.Errorf("Read(nil) is %v", q)
	}
	whole, _ := query.Put(nil, greatest())
	for _, errno := range []api.Errno{api.ErrBytes, api.ErrShort} {
		r := wire.New(whole)
		if errno == api.ErrShort {
			r = wire.New(append([]byte{40}, 'a'))
			r.Text(20)
		} else {
			r.Bad()
		}
		if q := query.Read(r); !isZero(q) || r.At() != 0 || r.End() != errno {
			t.Errorf("Read of one with the error %v is %v, at %d, %v", errno, q, r.At(), r.End())
		}
	}
	r := wire.New(append([]byte{128, 0}, whole...))
	r.Int(0, 9)
	if q := query.Read(r); !isZero(q) || r.At() != 0 || r.End() != api.ErrBytes {
		t.Errorf("Read behind no number is %v, at %d, %v", q, r.At(), r.End())
	}
	r = wire.New(whole)
	if query.Read(r); r.End() != api.OK {
		t.Errorf("Read of all is %v", r.End())
	}
	for range 2 {
		if q := query.Read(r); !isZero(q) || r.At() != len(whole) || r.End() != api.ErrShort {
			t.Errorf("Read at the end is %v, at %d, %v", q, r.At(), r.End())
		}
	}
}

// P12.3: each number beyond its bounds, and each text that is none, by hand: the place and the error.
func TestReadOfOthers(t *testing.T) {
	most := strings.Join(slices.Repeat([]string{longest}, 3), "/")
	for _, x := range []struct {
		about string
		b     []byte
		at    int
		errno api.Errno
	}{
		{"no byte", nil, 0, api.ErrShort},
		{"half a number of Group's", []byte{130}, 0, api.ErrShort},
		{"no number of Group's", []byte{130, 0, 0, 0}, 0, api.ErrBytes},
		{"-1 of Group's", row(-1, 0, 0), 0, api.ErrBytes},
		{"no Group, no number of Filters", row(0), 1, api.ErrShort},
		{"the zero query", row(0, 0), 2, api.OK},
		{"as long a Group as may be", row(3, 3, 3, 3, 0), 5, api.OK},
		{"one more", row(4, 0, 0, 0, 0, 0), 0, api.ErrBytes},
		{"a Group of 256", row(256, 0, 0), 0, api.ErrBytes},
		{"a Group of the greatest int", row(math.MaxInt, 0, 0), 0, api.ErrBytes},
		{"a Group of the least int", row(math.MinInt, 0, 0), 0, api.ErrBytes},
		{"a Group that is too short", row(2, 1), 2, api.ErrShort},
		{"a level of -1", row(1, -1, 0), 1, api.ErrBytes},
		{"a level of 4", row(1, 4, 0), 1, api.ErrBytes},
		{"a level of the greatest int", row(1, math.MaxInt, 0), 1, api.ErrBytes},
		{"a level of the least int", row(1, math.MinInt, 0), 1, api.ErrBytes},
		{"a second level of 4", row(2, 3, 4, 0), 2, api.ErrBytes},
		{"a third level of -1", row(3, 3, 3, -1, 0), 3, api.ErrBytes},
		{"no number as a level", append(row(1), 130, 0, 0), 1, api.ErrBytes},
		{"as many Filters as may be", row(0, 3, 0, 0, 0, 2, 3, 0, 1, 1, 0), 11, api.OK},
		{"one more", row(0, 4, 0, 0, 0, 0, 0, 0, 0, 0, 0, 0, 0, 0), 1, api.ErrBytes},
		{"-1 Filters", row(0, -1), 1, api.ErrBytes},
		{"256 Filters", row(0, 256, 0, 0, 0), 1, api.ErrBytes},
		{"Filters of the greatest int", row(0, math.MaxInt, 0, 0, 0), 1, api.ErrBytes},
		{"Filters of the least int", row(0, math.MinInt, 0, 0, 0), 1, api.ErrBytes},
		{"a Filter too few", row(0, 2, 0, 0, 0), 5, api.ErrShort},
		{"no Dim", row(1, 1, 1), 3, api.ErrShort},
		{"a Dim of 2", row(1, 1, 1, 2, 0, 0), 6, api.OK},
		{"a Dim of 3", row(1, 1, 1, 3, 0, 0), 3, api.ErrBytes},
		{"a Dim of -1", row(1, 1, 1, -1, 0, 0), 3, api.ErrBytes},
		{"a Dim of the greatest int", row(1, 1, 1, math.MaxInt, 0, 0), 3, api.ErrBytes},
		{"a Dim of the least int", row(1, 1, 1, math.MinInt, 0, 0), 3, api.ErrBytes},
		{"no Level", row(0, 1, 2), 3, api.ErrShort},
		{"a Level of 3", row(0, 1, 2, 3, 0), 5, api.OK},
		{"a Level of 4", row(0, 1, 2, 4, 0), 3, api.ErrBytes},
		{"a Level of -1", row(0, 1, 2, -1, 0), 3, api.ErrBytes},
		{"a Level of the greatest int", row(0, 1, 2, math.MaxInt, 0), 3, api.ErrBytes},
		{"a Level of the least int", row(0, 1, 2, math.MinInt, 0), 3, api.ErrBytes},
		{"no number of Members", row(0, 1, 2, 3), 4, api.ErrShort},
		{"as many Members as may be", row(0, 1, 2, 3, 6, "*", "a", "*", "a/b", "a", "*"), 19, api.OK},
		{"one more", row(0, 1, 2, 3, 7, "*", "*", "*", "*", "*", "*", "*"), 4, api.ErrBytes},
		{"-1 Members", row(0, 1, 2, 3, -1, "a"), 4, api.ErrBytes},
		{"256 Members", row(0, 1, 2, 3, 256, "a"), 4, api.ErrBytes},
		{"Members of the greatest int", row(0, 1, 2, 3, math.MaxInt, "a"), 4, api.ErrBytes},
		{"Members of the least int", row(0, 1, 2, 3, math.MinInt, "a"), 4, api.ErrBytes},
		{"a Member too few", row(0, 1, 0, 1, 2, "a"), 7, api.ErrShort},
		{"no Member", row(0, 1, 0, 1, 1), 5, api.ErrShort},
		{"a text of 38 bytes", row(0, 1, 0, 1, 1, most), 44, api.OK},
		{"a text of 39 bytes", row(0, 1, 0, 1, 1, most+"a"), 5, api.ErrBytes},
		{"a text of 39 bytes that are not there", row(0, 1, 0, 1, 1, 39), 5, api.ErrBytes},
		{"a text of 38 bytes that are not there", append(row(0, 1, 0, 1, 1, 38), "abc"...), 5, api.ErrShort},
		{"a text of -1 bytes", append(row(0, 1, 0, 1, 1, -1), "abc"...), 5, api.ErrBytes},
		{"a text of the greatest int of bytes", append(row(0, 1, 0, 1, 1, math.MaxInt), "abc"...), 5, api.ErrBytes},
		{"a text of the least int of bytes", append(row(0, 1, 0, 1, 1, math.MinInt), "abc"...), 5, api.ErrBytes},
		{"a text of no byte", row(0, 1, 0, 1, 1, ""), 6, api.ErrBytes},
		{"a text of four names", row(0, 1, 0, 1, 1, "a/b/c/d"), 13, api.ErrBytes},
		{"a text with a great letter", row(0, 1, 0, 1, 1, "A"), 7, api.ErrBytes},
		{"a second text that is no path's", row(0, 1, 0, 1, 2, "a", "a/"), 10, api.ErrBytes},
		{"a text that is no path's, with bytes behind that are amiss too", append(row(0, 1, 0, 1, 2, "A"), 128, 0), 7, api.ErrBytes},
		{"a second Filter with a Dim of 3", row(0, 2, 0, 1, 1, "a", 3, 0, 0), 7, api.ErrBytes},
		{"a second Filter with a Level of 4", row(0, 2, 0, 1, 1, "a", 2, 4, 0), 8, api.ErrBytes},
		{"a second Filter with a Member that is none", row(0, 2, 0, 1, 0, 2, 0, 1, "b/"), 11, api.ErrBytes},
		{"bytes behind", row(1, 2, 1, 1, 2, 0, 255, 255), 6, api.OK},
	} {
		r := wire.New(x.b)
		q := query.Read(r)
		if isZero(q) != (x.errno != api.OK || x.at == 2) || r.At() != x.at || r.Failed() != (x.errno != api.OK) || r.Failed() && r.End() != x.errno {
			t.Errorf("%s: %v, at %d, %v, not at %d, %v", x.about, q, r.At(), r.End(), x.at, x.errno)
		}
		if e := checkRead(t, x.b); e != x.errno {
			t.Errorf("%s: the test's own word is %v", x.about, e)
		}
	}
}

// P12.3: texts that are no path's, and such that are, as each Member.
func TestReadOfTexts(t *testing.T) {
	with := func(s string) [][]byte {
		return [][]byte{row(0, 1, 0, 1, 1, s), row(1, 1, 1, 2, 0, 3, "a", "b", s), row(0, 2, 0, 0, 0, 1, 1, 2, s, "a"), row(3, 1, 2, 3, 3, 0, 1, 6, s, "a", "a", "a", "a", "a", 1, 1, 1, "b", 2, 2, 0)}
	}
	for _, s := range badTexts {
		for _, b := range with(s) {
			if e := checkRead(t, b); e != api.ErrBytes {
				t.Errorf("%q as a member: the test's own word is %v", s, e)
			}
		}
	}
	for _, s := range []string{"*", "a", longest, "a/b", "a/b/c", "-/_/0", longest + "/" + longest + "/" + longest} {
		for _, b := range with(s) {
			if e := checkRead(t, b); e != api.OK {
				t.Errorf("%q as a member: the test's own word is %v", s, e)
			}
		}
	}
}

// P12.3: bytes that are cut off at every place, or with each other byte at every place, or with one left out.
func TestReadOfChangedBytes(t *testing.T) {
	for _, q := range []api.Query{{}, group([]int{1, 0}, filter(1, 2, "a/x")), group([]int{3, 2, 1}), roll(1).fit(sized(2, 3, 1), 2, 9), roll(2).fit(sized(3), 3, 9), group([]int{0}, filter(2, 0, "* a/b/c"), filter(0, 3, "")), greatest()} {
		whole, e := query.Put(nil, q)
		if e != api.OK {
			t.Fatalf("Put of %v is %v", q, e)
		}
		for i := range whole {
			if e := checkRead(t, whole[:i]); e != api.ErrShort {
				t.Errorf("%d bytes of %v: %v", i, whole, e)
			}
			for c := range 256 {
				changed := bytes.Clone(whole)
				changed[i] = byte(c)
				checkRead(t, changed)
			}
			checkRead(t, append(bytes.Clone(whole[:i]), whole[i+1:]...))
		}
		checkRead(t, append(whole, 0, 255))
	}
}

// P12.3: bytes without a pattern, of few numbers and letters.
func TestReadOfNoise(t *testing.T) {
	some := []byte{0, 0, 0, 2, 2, 2, 2, 2, 4, 4, 6, 1, 'a', '/', '*', 128}
	seen := map[api.Errno]int{}
	for seed := range 40000 {
		d := roll(seed)
		var b []byte
		for range 1 + seed%24 {
			b = append(b, some[d.below(len(some))])
		}
		seen[checkRead(t, b)]++
	}
	if seen[api.OK] < 1000 || seen[api.ErrBytes] < 1000 || seen[api.ErrShort] < 1000 {
		t.Errorf("so many of each: %v", seen)
	}
}

// P12.4: queries without a pattern: one that may be for a schema is plain, and what is plain is read as it was put.
func TestQueriesCanBePut(t *testing.T) {
	seen := map[bool]int{}
	for seed := range 6000 {
		d := roll(seed)
		s := shapes()[d.below(len(shapes()))]
		q := d.loose()
		if seed%2 == 0 {
			q = d.fit(s, d.below(mostFilters+1), len(goodNames))
		}
		b, e := query.Put(nil, q)
		if (e == api.OK) != isPlain(q) || e != api.OK && (e != api.ErrQuery || b != nil) {
			t.Fatalf("Put of %v is %v, %v", q, b, e)
		}
		may := query.May(s, q) == api.OK
		if may && e != api.OK || seed%2 == 0 && !may {
			t.Fatalf("%v may be (%t), and is put as %v, %v", q, may, b, e)
		}
		if seen[e == api.OK]++; e != api.OK {
			continue
		}
		r := wire.New(b)
		got := query.Read(r)
		if !same(got, q) || r.End() != api.OK || (query.May(s, got) == api.OK) != may {
			t.Fatalf("%v is put and read as %v, %v", q, got, r.End())
		}
	}
	if seen[true] < 3000 || seen[false] < 300 {
		t.Errorf("so many that are plain and not: %v", seen)
	}
}

// P12.4: what was put and read again passes and has its key as before.
func TestReadAsksTheSame(t *testing.T) {
	for seed := range 1000 {
		d := roll(seed)
		s := sized(3, 3, 3)
		q := d.fit(s, d.below(mostFilters+1), 2)
		b, _ := query.Put(nil, q)
		got := query.Read(wire.New(b))
		list := [][]string{d.path(3, 2), d.path(3, 2), d.path(3, 2)}
		if query.Passes(got, list) != query.Passes(q, list) || !samePaths(query.Key(got, list), query.Key(q, list)) {
			t.Fatalf("%v by %v is otherwise than by %v", list, got, q)
		}
		checkMay(t, s, got, api.OK)
	}
}

// R4: Put keeps nothing and answers new memory each time, also of a query that shares its own.
func TestPutIsItsOwn(t *testing.T) {
	_, share := shared()
	for _, q := range append(plains(), share) {
		mine := roomy(q)
		want := bytesOf([]byte{5}, q)
		b := []byte{5, 6, 7}
		first, e := query.Put(b[:1], mine)
		second, _ := query.Put(b[:1], mine)
		apart(t, "Put", []any{first, second}, b)
		spoil(first)
		_ = append(first, 1, 2, 3)
		if e != api.OK || !bytes.Equal(second, want) || !bytes.Equal(b, []byte{5, 6, 7}) {
			t.Errorf("Put of %v, once another answer was written into, is %v, %v", q, second, e)
		}
		clear(b)
		spoil(mine)
		if !bytes.Equal(second, want) {
			t.Errorf("Put of %v keeps what is handed in", q)
		}
	}
	checkPut(t, share)
}

// R4: what is read is new memory: each of its lists, and of each answer.
func TestReadIsItsOwn(t *testing.T) {
	_, share := shared()
	for _, q := range append(plains(), share) {
		b, _ := query.Put(nil, q)
		two := wire.New(append(bytes.Clone(b), b...))
		first, second, third := query.Read(two), query.Read(two), query.Read(wire.New(b))
		apart(t, "Read", []any{first, second, third}, b)
		for _, f := range first.Filters { // what is appended to a list changes no other one
			for _, p := range f.Members {
				_ = append(p, "spoilt", "spoilt", "spoilt")
			}
			_ = append(f.Members, []string{"spoilt"}, []string{"spoilt"})
		}
		_ = append(first.Filters, filter(9, 9, "spoilt"))
		_ = append(first.Group, 99, 99, 99)
		if !same(first, q) {
			t.Errorf("what is read is %v, once more was appended, not %v", first, q)
		}
		spoil(first)
		spoil(b)
		if !same(second, q) || !same(third, q) || two.End() != api.OK {
			t.Errorf("what is read is %v, %v, once another answer was written into, not %v", second, third, q)
		}
	}
}

// R4: nil and empty lists are one.
func TestBytesOfNilAndEmpty(t *testing.T) {
	for _, q := range []api.Query{{}, {Group: []int{}}, {Filters: []api.Filter{}}, {Group: []int{}, Filters: []api.Filter{}}} {
		for _, b := range [][]byte{nil, {}} {
			if got, e := query.Put(b, q); !bytes.Equal(got, []byte{0, 0}) || e != api.OK {
				t.Errorf("Put(%v, %v) is %v, %v", b, q, got, e)
			}
		}
	}
	for _, members := range [][][]string{nil, {}} {
		if got, e := query.Put(nil, group(nil, api.Filter{Members: members})); !bytes.Equal(got, []byte{0, 2, 0, 0, 0}) || e != api.OK {
			t.Errorf("Put of %v is %v, %v", members, got, e)
		}
	}
	for _, p := range [][]string{nil, {}} {
		if got, e := query.Put(nil, group(nil, api.Filter{Members: [][]string{p}})); !bytes.Equal(got, []byte{0, 2, 0, 0, 2, 2, '*'}) || e != api.OK {
			t.Errorf("Put of %v is %v, %v", p, got, e)
		}
	}
}

// R5: the same arguments, the same answers.
func TestBytesToldTheSame(t *testing.T) {
	for _, q := range append(plains(), amiss()...) {
		first, errno := query.Put(nil, q)
		for range 2 {
			if got, e := query.Put([]byte{}, roomy(q)); !bytes.Equal(got, first) || e != errno {
				t.Errorf("Put of %v is another one", q)
			}
		}
		if !same(query.Read(wire.New(first)), query.Read(wire.New(first))) {
			t.Errorf("Read of %v is another one", first)
		}
	}
}
