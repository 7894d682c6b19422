package lattice_test

import (
	"bytes"
	"math"
	"slices"
	"testing"

	"tesseract/api"
	"tesseract/cuboid"
	"tesseract/dict"
	"tesseract/lattice"
	"tesseract/wire"
)

// P11.3 and R4: what is put stands behind b, of which no byte changes, its spare room neither; and is new memory.
func TestPutStandsBehind(t *testing.T) {
	for _, s := range kinds() {
		for _, count := range []int{0, 1, 20} {
			l, m := both(t, s, batches(some(s, 51, count, 4, small()...), 8)...)
			for _, length := range []int{0, 1, 5, 300} {
				for _, room := range []int{0, 1, 64, 5000} {
					whole := bytes.Repeat([]byte{17, 3, 250, 0, 8}, (length+room)/5+1)[:length+room]
					before := bytes.Clone(whole)
					first, second := l.Put(whole[:length]), l.Put(whole[:length])
					want := append(bytes.Clone(before[:length]), m.bytes()...)
					if !bytes.Equal(first, want) || !bytes.Equal(second, want) || !bytes.Equal(whole, before) {
						t.Fatalf("%d bytes with room for %d: %v, and %v, not %v; or bytes changed", length, room, first, second, want)
					}
					apart(t, "Put", first, second, whole)
				}
			}
			check(t, "behind Put", l, m)
			if !bytes.Equal(l.Put(nil), l.Put([]byte{})) {
				t.Error("nil and no bytes are not one")
			}
		}
	}
}

// P11.3 and P11.5: what was put is read, with bytes ahead and behind, which stay to be read; in all its views, and it goes on as what was put does.
func TestReadOfPut(t *testing.T) {
	for _, s := range kinds() {
		for _, count := range []int{0, 1, 2, 30} {
			l, m := both(t, s, batches(some(s, 52, count, 4, small()...), 8)...)
			for _, ahead := range []int{0, 1, -65} {
				for _, behind := range [][]byte{nil, {0}, {255}, {2, 0, 2, 'a'}} {
					start := wire.PutInt(nil, ahead)
					b := append(l.Put(start), behind...)
					before := bytes.Clone(b)
					r := wire.New(b)
					if r.Int(ahead, ahead) != ahead || r.Failed() {
						t.Fatal("what stands ahead is not read")
					}
					mine := roomySchema(s)
					read := lattice.Read(r, mine)
					if read == nil || r.Failed() || r.At() != len(b)-len(behind) || !bytes.Equal(b, before) {
						t.Fatalf("Read is %v, at %d, %v", read, r.At(), r.End())
					}
					if (r.End() == api.OK) != (len(behind) == 0) || !sameWithRoom(mine, roomySchema(s)) {
						t.Errorf("%v behind it: %v", behind, r.End())
					}
					check(t, "what was read", read, m)
					goOn(t, read, m)
				}
			}
			goOn(t, l, m)
		}
	}
}

// P11.3: two, one behind the other, of other schemas.
func TestReadOfTwo(t *testing.T) {
	for i, s := range kinds() {
		other := kinds()[(i+4)%len(kinds())]
		x, m := both(t, s, some(s, 53, 6, 3, small()...))
		y, n := both(t, other, some(other, 54, 8, 3, small()...))
		r := wire.New(y.Put(x.Put(nil)))
		first, second := lattice.Read(r, s), lattice.Read(r, other)
		if r.End() != api.OK {
			t.Fatalf("both are read with %v", r.End())
		}
		check(t, "the first", first, m)
		check(t, "the second", second, n)
	}
}

// P11.5: of a lattice that refused something, and of one that is copied.
func TestReadBehindRefusals(t *testing.T) {
	for _, s := range kinds() {
		for seed := range 5 {
			l, m := both(t, s)
			for i := range 12 {
				m = apply(t, l, m, some(s, 100*seed+i, 1+i%8, 2+i%6, great()...))
			}
			made(t, m)
			read := lattice.Read(wire.New(l.Copy().Put(nil)), s)
			check(t, "what was read", read, m)
			for i := range 6 {
				batch := some(s, 1000*seed+i, 8, 6, great()...)
				apply(t, read, m, batch)
				m = apply(t, l, m, batch)
				read = lattice.Read(wire.New(l.Put(nil)), s)
			}
		}
	}
}

// read is what Read is to answer of bytes, by the words of the document: the model, the place behind it, and the error. Dictionaries and cuboids are read as the layers below read them.
func read(b []byte, s api.Schema) (model, int, api.Errno) {
	r, m := wire.New(b), none(s)
	for i, d := range s.Dims {
		x := dict.Read(r, len(d.Levels))
		if x == nil {
			return m, r.At(), r.End()
		}
		for code := 1; code <= x.Len(); code++ {
			p, _ := x.Path(code)
			m.dicts[i] = append(m.dicts[i], p)
		}
	}
	c := cuboid.Read(r, len(s.Dims), len(s.Measures))
	if c == nil {
		return m, r.At(), r.End()
	}
	for _, key := range c.Keys() {
		x, _ := c.Get(key)
		var under [][]string
		for i, code := range key {
			if code < 1 || code > len(m.dicts[i]) || len(m.dicts[i][code-1]) != len(s.Dims[i].Levels) {
				return m, r.At(), api.ErrBytes
			}
			under = append(under, m.dicts[i][code-1])
		}
		m.parts = append(m.parts, part{under, x})
	}
	if !m.fits() {
		return m, r.At(), api.ErrBytes
	}
	return m, r.At(), api.OK
}

// checkRead holds Read of bytes, with a byte ahead, against read: the answer, the place, and the error, which stays; and what was handed in against what it was.
func checkRead(t *testing.T, b []byte, s api.Schema) api.Errno {
	t.Helper()
	whole := append([]byte{3}, b...)
	before := bytes.Clone(whole)
	r := wire.New(whole)
	r.Int(-2, -2)
	m, at, errno := read(b, s)
	l := lattice.Read(r, s)
	if (l == nil) != (errno != api.OK) || r.At() != at+1 || r.Failed() != (errno != api.OK) || r.Failed() && r.End() != errno {
		t.Fatalf("Read of %v is %v, at %d, %v, not at %d, %v", b, l, r.At()-1, r.End(), at, errno)
	}
	if !bytes.Equal(whole, before) {
		t.Fatalf("Read changed %v to %v", before, whole)
	}
	if errno != api.OK {
		if lattice.Read(r, s) != nil || r.At() != at+1 || r.End() != errno {
			t.Fatalf("behind a refusal at %d, %v is %v", r.At(), errno, r.End())
		}
		return errno
	}
	check(t, "what was read", l, m)
	if !bytes.Equal(l.Put(nil), b[:at]) {
		t.Fatalf("what is read of %v is put as %v", b[:at], l.Put(nil))
	}
	return errno
}

// turnsOf is a byte as others: all of them, or with each of its bits turned, and some more.
func turnsOf(b byte, all bool) []byte {
	l := []byte{b + 1, b - 1, 0, 255, 128}
	for bit := range 8 {
		l = append(l, b^1<<bit)
	}
	for c := 0; all && c < 256; c++ {
		l = append(l, byte(c))
	}
	return l
}

// P11.3: bytes that are cut off at every place, with another byte at every place, and without one of them.
func TestReadOfChangedBytes(t *testing.T) {
	for i, s := range kinds() {
		for _, count := range []int{0, 1, 4} {
			_, m := both(t, s, some(s, 60+i, count, 3, mostValue, 3, -1)[:min(count, 2)], some(s, 70+i, count, 3, 5, 6))
			whole := m.bytes()
			for at := range whole {
				if e := checkRead(t, whole[:at], s); e != api.ErrShort {
					t.Errorf("%d bytes of %v: %v", at, whole, e)
				}
				for _, c := range turnsOf(whole[at], i < 3) {
					changed := bytes.Clone(whole)
					changed[at] = c
					checkRead(t, changed, s)
				}
				checkRead(t, append(bytes.Clone(whole[:at]), whole[at+1:]...), s)
			}
			checkRead(t, append(whole, 0, 255), s)
		}
	}
}

// P11.3: bytes of one schema, read by another one.
func TestReadByOthers(t *testing.T) {
	seen := map[api.Errno]int{}
	for i, s := range kinds() {
		for seed := range 20 {
			_, m := both(t, s, some(s, 80*i+seed, 1+seed%8, 4, small()...))
			for _, other := range kinds() {
				seen[checkRead(t, m.bytes(), other)]++
			}
		}
	}
	if seen[api.OK] < 100 || seen[api.ErrBytes] < 100 || seen[api.ErrShort] < 1 {
		t.Errorf("so many of each: %v", seen)
	}
}

// dictOf is a dictionary's bytes: of each path the code of the one above, and the last name.
func dictOf(l ...any) []byte {
	b := row(len(l) / 2)
	for i := 0; i < len(l); i += 2 {
		b = wire.PutText(append(b, row(l[i].(int))...), l[i+1].(string))
	}
	return b
}

// P11.3: each refusal by hand: the place and the error.
func TestReadOfOthers(t *testing.T) {
	const v = mostValue
	s := schemaOf(1, [][]int{{1, 0}, {0, 0}}, 2, 1)
	first := dictOf(0, "a", 1, "x", 1, "y", 0, "b", 4, "x") // full: 2, 3, 5
	second := dictOf(0, "q", 0, "r")
	dicts := slices.Concat(first, second)
	base := func(numbers ...int) []byte { return slices.Concat(dicts, row(numbers...)) }
	for _, x := range []struct {
		about string
		b     []byte
		at    int // from the end of the dictionaries on
		errno api.Errno
	}{
		{"no byte", nil, -len(dicts), api.ErrShort},
		{"half a path at the end of the first", slices.Concat(dictOf(0, "a"), second, row(0)), 4 - len(dicts), api.ErrBytes},
		{"a name that is none", slices.Concat(dictOf(0, "a", 1, "X"), second, row(0)), 7 - len(dicts), api.ErrBytes},
		{"no second dictionary", first, -len(second), api.ErrShort},
		{"a second dictionary of other levels", slices.Concat(first, dictOf(0, "q", 1, "r"), row(0)), len(first) + 7 - len(dicts), api.ErrBytes},
		{"too many paths in the second", slices.Concat(first, row(41)), -len(second), api.ErrBytes},
		{"no base", dicts, 0, api.ErrShort},
		{"a base of no cell", base(0), 1, api.OK},
		{"a base of -1 cells", base(-1), 0, api.ErrBytes},
		{"a base of too many cells", base(64001), 0, api.ErrBytes},
		{"a cell", base(1, 2, 1, 1, 5, 5, 5), 7, api.OK},
		{"a cell under each path", base(6, 2, 1, 1, 5, 5, 5, 2, 2, 1, 5, 5, 5, 3, 1, 1, 5, 5, 5, 3, 2, 1, 5, 5, 5, 5, 1, 1, 5, 5, 5, 5, 2, 1, 5, 5, 5), 37, api.OK},
		{"bytes behind", base(1, 2, 1, 1, 5, 5, 5, 9), 7, api.OK},
		{"a path of one name where there are two levels", base(1, 1, 1, 1, 5, 5, 5), 7, api.ErrBytes},
		{"another path of one name", base(1, 4, 1, 1, 5, 5, 5), 7, api.ErrBytes},
		{"a code behind the last one", base(1, 6, 1, 1, 5, 5, 5), 7, api.ErrBytes},
		{"the greatest code", base(1, 40, 1, 1, 5, 5, 5), 7, api.ErrBytes},
		{"a greater code", base(1, 41, 1, 1, 5, 5, 5), 1, api.ErrBytes},
		{"the path of no name in the first Dim", base(1, 0, 1, 1, 5, 5, 5), 7, api.ErrBytes},
		{"the path of no name in the second Dim", base(1, 2, 0, 1, 5, 5, 5), 7, api.ErrBytes},
		{"a code behind the last one in the second Dim", base(1, 2, 3, 1, 5, 5, 5), 7, api.ErrBytes},
		{"a later cell under a path of one name", base(2, 2, 1, 1, 5, 5, 5, 4, 1, 1, 5, 5, 5), 13, api.ErrBytes},
		{"an earlier cell under a path of one name, and bytes behind", base(2, 1, 1, 1, 5, 5, 5, 2, 1, 1, 5, 5, 5, 9), 13, api.ErrBytes},
		{"a path of one name, and a cell that is not there", base(2, 1, 1, 1, 5, 5, 5), 7, api.ErrShort},
		{"a sum in a view, just", base(2, 2, 1, 1, v, v, v, 3, 1, 1, v, v, v), 61, api.OK},
		{"a sum in a view that is too great", base(3, 2, 1, 1, v, v, v, 2, 2, 1, 1, 1, 1, 3, 1, 1, v, v, v), 67, api.ErrBytes},
		{"a sum in the view of all alone", base(3, 2, 1, 1, v, v, v, 3, 1, 1, v, v, v, 5, 1, 1, 1, 1, 1), 67, api.ErrBytes},
		{"a sum in a view that is too little", base(2, 2, 1, 2, -2*v, -v, -v, 3, 1, 1, -1, -1, -1), 37, api.ErrBytes},
		{"a sum too great on the way alone", base(3, 2, 1, 2, 2*v, v, v, 2, 2, 2, 2*v, v, v, 3, 1, 2, -2*v, -v, -v), 93, api.OK},
		{"the greatest Count", base(1, 2, 1, mostCount, 0, 0, 0), 12, api.OK},
		{"a greater Count", base(1, 2, 1, mostCount+1, 0, 0, 0), 3, api.ErrBytes},
		{"Counts that are too great together", base(2, 2, 1, mostCount, 0, 0, 0, 5, 1, 1, 0, 0, 0), 18, api.ErrBytes},
		{"Counts that are just not too great together", base(2, 2, 1, mostCount-1, 0, 0, 0, 5, 1, 1, 0, 0, 0), 18, api.OK},
	} {
		r := wire.New(x.b)
		l := lattice.Read(r, s)
		at := x.at + len(dicts)
		if (l == nil) != (x.errno != api.OK) || r.At() != at || r.Failed() != (x.errno != api.OK) || r.Failed() && r.End() != x.errno {
			t.Errorf("%s: %v, at %d, %v, not at %d, %v", x.about, l, r.At(), r.End(), at, x.errno)
		}
		if e := checkRead(t, x.b, s); e != x.errno {
			t.Errorf("%s: the test's own word is %v", x.about, e)
		}
	}
}

// P11.3: more than as many facts as may be, where there is no view above the base, whose cells alone may be.
func TestReadOfTooManyFacts(t *testing.T) {
	for _, views := range [][][]int{nil, {{1}}, {{0}}} {
		s := schemaOf(1, views, 2)
		for _, counts := range [][]int{{mostCount}, {mostCount, 1}, {mostCount - 1, 1}, {mostCount / 2, mostCount / 2}, {mostCount / 2, mostCount/2 + 1}, {mostCount, mostCount, mostCount}, {mostCount - 3, 1, 1, 1}, {mostCount - 3, 1, 2, 1}} {
			m, sum := none(s), 0
			for i, count := range counts {
				p := paths(string(rune('a'+i)) + "/x")
				m.come(0, p[0])
				m.parts = append(m.parts, part{p, api.Cell{Count: count, Sums: []int{0}, Mins: []int{0}, Maxs: []int{0}}})
				sum += count
			}
			if e := checkRead(t, m.bytes(), s); (e == api.OK) != (sum <= mostCount) {
				t.Errorf("Counts %v: %v", counts, e)
			}
		}
	}
}

// P11.3: sums of two measures that may be in a view, or not: of the first alone, of the second alone, and of both.
func TestReadOfGreatSums(t *testing.T) {
	under := func(text string, sums [2]int) part {
		return part{paths(text, text), api.Cell{Count: 2, Sums: sums[:], Mins: []int{-mostValue, -mostValue}, Maxs: []int{mostValue, mostValue}}}
	}
	for _, x := range []struct {
		one, other [2]int
		want       api.Errno
	}{
		{[2]int{mostSum, 0}, [2]int{0, 0}, api.OK},
		{[2]int{mostSum, 0}, [2]int{1, 0}, api.ErrBytes},
		{[2]int{0, mostSum}, [2]int{0, 1}, api.ErrBytes},
		{[2]int{-mostSum, 5}, [2]int{-1, 0}, api.ErrBytes},
		{[2]int{0, -mostSum}, [2]int{0, -1}, api.ErrBytes},
		{[2]int{mostSum, mostSum}, [2]int{mostSum, mostSum}, api.ErrBytes},
		{[2]int{mostSum, mostSum}, [2]int{-1, -1}, api.OK},
		{[2]int{mostSum, -mostSum}, [2]int{-mostSum, mostSum}, api.OK},
	} {
		for _, levels := range [][]int{{1, 1}, {0, 0}, {0, 2}, {2, 0}} {
			want := x.want
			if levels[0] == 2 || levels[1] == 2 { // they stand apart there
				want = api.OK
			}
			s := schemaOf(2, [][]int{levels}, 2, 2)
			m := holding(s, under("a/x", x.one), under("a/y", x.other))
			if e := checkRead(t, m.bytes(), s); e != want {
				t.Errorf("%v and %v in the view %v: %v, not %v", x.one, x.other, levels, e, want)
			}
		}
	}
}

// P11.3: paths that no cell is under are read, too, and keep their codes.
func TestReadOfPathsWithoutFacts(t *testing.T) {
	s := schemaOf(1, [][]int{{1, 0}}, 2, 1)
	m := none(s)
	for _, text := range []string{"c/x", "a/x", "c/a", "b/x"} {
		m.come(0, paths(text)[0])
	}
	m.come(1, []string{"q"})
	l := made(t, m)
	m = take(t, l, m, facts(fact(5, "b/x", "q"), fact(6, "a/new", "r")))
	goOn(t, l, m)
}

// P11.3: a schema that may not be, no reader, one that has an error already, and one that is at its end.
func TestReadOfNoReader(t *testing.T) {
	for _, s := range kinds() {
		l, m := both(t, s, some(s, 90, 5, 3, small()...))
		whole := l.Put(nil)
		if x := lattice.Read(nil, s); x != nil {
			t.Errorf("Read(nil, ..) is %v", x)
		}
		for _, errno := range []api.Errno{api.ErrBytes, api.ErrShort} {
			r := wire.New(whole)
			if errno == api.ErrShort {
				r = wire.New([]byte{40, 'a'})
				r.Text(20)
			} else {
				r.Bad()
			}
			if x := lattice.Read(r, s); x != nil || r.At() != 0 || r.End() != errno {
				t.Errorf("Read of one with the error %v is %v, at %d, %v", errno, x, r.At(), r.End())
			}
		}
		r := wire.New(whole)
		check(t, "what was read", lattice.Read(r, s), m)
		for range 2 {
			if x := lattice.Read(r, s); x != nil || r.At() != len(whole) || r.End() != api.ErrShort {
				t.Errorf("Read at the end is %v, at %d, %v", x, r.At(), r.End())
			}
		}
	}
	for _, s := range mayNotBe() {
		for _, b := range [][]byte{nil, {0, 0, 0, 0, 0}, {128}} {
			mine := roomySchema(s)
			r := wire.New(b)
			if x := lattice.Read(r, mine); x != nil || r.Failed() || r.At() != 0 || !sameWithRoom(mine, roomySchema(s)) {
				t.Errorf("Read by %v is %v, at %d, %v", s, x, r.At(), r.End())
			}
			if x := lattice.Read(nil, mine); x != nil {
				t.Errorf("Read(nil, %v) is %v", s, x)
			}
		}
	}
}

// P11.3: bytes without a pattern, of few numbers.
func TestReadOfNoise(t *testing.T) {
	few := []byte{0, 0, 2, 2, 2, 4, 'a', 1, 6, 'b', 128}
	seen := map[api.Errno]int{}
	d := dice(7)
	for i := range 30000 {
		b := slices.Concat([][]byte{nil, {2, 0, 2, 'a'}, dictOf(0, "a", 1, "x"), slices.Concat(dictOf(0, "a"), dictOf(0, "b"))}[i%4])
		for range d.below(12) {
			b = append(b, few[d.below(len(few))])
		}
		seen[checkRead(t, b, kinds()[i/4%6])]++
	}
	if seen[api.OK] < 500 || seen[api.ErrBytes] < 500 || seen[api.ErrShort] < 500 {
		t.Errorf("so many of each: %v", seen)
	}
}

// P11.2 and R1: views of any number are answered, of what was read too.
func TestViewsOfWhatWasRead(t *testing.T) {
	for _, s := range kinds() {
		_, m := both(t, s, some(s, 91, 8, 3, small()...))
		l := made(t, m)
		for view := math.MinInt; view < 0; view /= 2 {
			if rows, e := l.Rows(view); rows != nil || e != api.ErrView {
				t.Errorf("Rows(%d) is %v, %v", view, rows, e)
			}
			if n, e := l.Len(-view); view < -8 && (n != 0 || e != api.ErrView) {
				t.Errorf("Len(%d) is %d, %v", -view, n, e)
			}
		}
	}
}
