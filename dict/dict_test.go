package dict_test

import (
	"iter"
	"math"
	"slices"
	"strconv"
	"strings"
	"testing"

	"concordance/api"
	"concordance/dict"
)

// chance tells numbers that seem to come by chance, the same ones each time.
func chance(seed uint64) func(n int) int {
	return func(n int) int {
		seed = seed*6364136223846793005 + 1442695040888963407
		return int(seed>>33) % n
	}
}

// some is a name by chance, of few letters, so that names often begin alike.
func some(pick func(n int) int) string {
	letters := []string{"\x00", "a", "b", "z", "\x7f", "\x80", "\xff", "ä"}
	name := ""
	for range pick(5) {
		name += letters[pick(len(letters))]
	}
	return name
}

// rising is names, sorted, each once.
func rising(names []string) []string {
	l := slices.Clone(names)
	slices.Sort(l)
	return slices.Compact(l)
}

// lists are names of dictionaries: none, few, the edges, and some by chance.
func lists() [][]string {
	l := [][]string{nil, {}, {""}, {"a"}, {"\x00"}, {"\xff"}, {"", "\x00"}, {"", "\x00", "\x00\x00", "\x01"}, {"a", "c"}, {"", "a", "ab", "abc", "b", "ba"},
		{"a", "a\x00", "a\x00\x00", "a\x00b", "a\x01", "aa"}, {"B", "a", "z", "\x7f", "\x80", "\xc3", "ä", "\xff", "\xff\x00", "\xff\xff", "\xff\xff\xff"}}
	for _, many := range []int{1, 2, 3, 4, 7, 8, 9, 15, 16, 17, 31, 32, 33, 64, 100} {
		var names, begun []string
		for i := range many {
			names = append(names, strconv.Itoa(100+i))
			begun = append(begun, strings.Repeat("x", i))
		}
		l = append(l, names, begun)
	}
	pick := chance(71)
	for range 60 {
		var names []string
		for range pick(40) {
			names = append(names, some(pick))
		}
		l = append(l, rising(names))
	}
	return l
}

// things are numbers, none of them 0, each its own.
func things(names []string) []int {
	l := make([]int, len(names))
	for i := range l {
		l[i] = 1000 + 3*i
	}
	return l
}

func made[V any](t *testing.T, names []string, things []V) *dict.Dict[V] {
	t.Helper()
	d, e := dict.Make(names, things)
	if d == nil || e != api.OK {
		t.Fatalf("Make of %q: %v", names, e)
	}
	return d
}

// asked are texts that a dictionary is asked for: its names, their beginnings, what is just behind or ahead of them, and others.
func asked(names []string) []string {
	l := []string{"", "\x00", "a", "aa", "ab", "b", "c", "x", "1", "10", "ä", "\x7f", "\x80", "\xc3", "\xff", "\xff\xff\xff\xff\xff\xff"}
	for _, name := range names {
		l = append(l, name, name+"\x00", name+"\x01", name+"\xff", name+"a")
		if n := len(name); n > 0 {
			last := name[n-1]
			l = append(l, name[:n-1], name[:n/2], name[:1], name[1:], name[:n-1]+string([]byte{last - 1}), name[:n-1]+string([]byte{last + 1}), name[:n-1]+string([]byte{last - 1, 255}))
		}
	}
	return rising(l)
}

// place is where a name stands, or would, found one by one.
func place(names []string, name string) (int, bool) {
	i := 0
	for i < len(names) && names[i] < name {
		i++
	}
	return i, i < len(names) && names[i] == name
}

// prefix is where names that begin so stand, found one by one.
func prefix(names []string, begin string) (int, int) {
	from, _ := place(names, begin)
	first, behind := -1, -1
	for i, name := range names {
		if strings.HasPrefix(name, begin) {
			if first < 0 {
				first = i
			}
			behind = i + 1
		}
	}
	if first < 0 {
		return from, from
	}
	return first, behind
}

// told is what is told two by two, so many at most.
func told[V any](all iter.Seq2[string, V], many int) ([]string, []V) {
	var names []string
	var things []V
	if many == 0 {
		return names, things
	}
	for name, thing := range all {
		names, things = append(names, name), append(things, thing)
		if len(names) == many {
			break
		}
	}
	return names, things
}

// outside are places that no dictionary has.
func outside(n int) []int {
	return []int{math.MinInt, math.MinInt + 1, -1 << 32, -2, -1, n, n + 1, 1 << 32, math.MaxInt - 1, math.MaxInt}
}

// holds asks all that a dictionary can be asked.
func holds[V comparable](t *testing.T, d *dict.Dict[V], names []string, things []V) {
	t.Helper()
	var none V
	if l := d.Names(); d.Len() != len(names) || !slices.Equal(l, names) {
		t.Fatalf("%d names %q, want %q", d.Len(), l, names)
	}
	for i, want := range names {
		if name, thing := d.At(i); name != want || thing != things[i] {
			t.Fatalf("of %q: At(%d): %q, %v", names, i, name, thing)
		}
	}
	for _, i := range outside(len(names)) {
		if name, thing := d.At(i); name != "" || thing != none {
			t.Fatalf("of %q: At(%d): %q, %v", names, i, name, thing)
		}
	}
	for _, name := range asked(names) {
		want, stands := place(names, name)
		if i, ok := d.Place(name); i != want || ok != stands {
			t.Fatalf("of %q: Place(%q): %d, %v; want %d, %v", names, name, i, ok, want, stands)
		}
		thing := none
		if stands {
			thing = things[want]
		}
		if v, ok := d.Find(name); v != thing || ok != stands {
			t.Fatalf("of %q: Find(%q): %v, %v; want %v, %v", names, name, v, ok, thing, stands)
		}
		first, behind := prefix(names, name)
		if from, to := d.Prefix(name); from != first || to != behind {
			t.Fatalf("of %q: Prefix(%q): %d, %d; want %d, %d", names, name, from, to, first, behind)
		}
	}
	for _, i := range append(outside(len(names)), 0, len(names)/2, len(names)-1) {
		from := min(max(i, 0), len(names))
		if n, v := told(d.From(i), -1); !slices.Equal(n, names[from:]) || !slices.Equal(v, things[from:]) {
			t.Fatalf("of %q: From(%d): %q, %v", names, i, n, v)
		}
	}
}

// The document's examples.
func TestExample(t *testing.T) {
	d := made(t, []string{"a", "c"}, []int{1, 2})
	if i, ok := d.Place("b"); i != 1 || ok {
		t.Error(i, ok)
	}
	if from, to := d.Prefix("c"); from != 1 || to != 2 {
		t.Error(from, to)
	}
}

// P7.1, P7.2: all that a dictionary tells, of names of many kinds.
func TestAll(t *testing.T) {
	for _, names := range lists() {
		l := things(names)
		d := made(t, names, l)
		for range 2 { // nothing changes by it
			holds(t, d, names, l)
		}
	}
}

// P7.1, Make: names and things that are not as many.
func TestMakeNotAsMany(t *testing.T) {
	for _, names := range lists() {
		for many := range len(names) + 3 {
			d, e := dict.Make(names, make([]int, many))
			if many == len(names) {
				if d == nil || e != api.OK {
					t.Fatalf("%q: %v", names, e)
				}
			} else if d != nil || e != api.ErrArg {
				t.Fatalf("%q and %d things: %v", names, many, e)
			}
		}
	}
	if d, e := dict.Make[int](nil, []int{0}); d != nil || e != api.ErrArg {
		t.Error(e)
	}
	if d, e := dict.Make[int]([]string{""}, nil); d != nil || e != api.ErrArg {
		t.Error(e)
	}
}

// P7.1, Make: names that do not rise, wherever that is.
func TestMakeNotRising(t *testing.T) {
	refused := func(names []string) {
		t.Helper()
		if d, e := dict.Make(names, make([]string, len(names))); d != nil || e != api.ErrArg {
			t.Fatalf("%q: %v", names, e)
		}
	}
	for _, names := range [][]string{{"a", "a"}, {"", ""}, {"b", "a"}, {"a", ""}, {"ab", "a"}, {"a\x00", "a"}, {"a", "B"}, {"ä", "z"}, {"\x80", "\x7f"}, {"\xff", "\x00"}, {"9", "10"}} {
		refused(names)
	}
	for _, names := range lists() {
		for i := range names {
			refused(slices.Insert(slices.Clone(names), i, names[i]))
			if i > 0 {
				l := slices.Clone(names)
				l[i-1], l[i] = l[i], l[i-1]
				refused(l)
				refused(append(slices.Clone(names), names[i-1]))
			}
		}
	}
}

// P7.1: of no names.
func TestNone(t *testing.T) {
	for _, names := range [][]string{nil, {}, make([]string, 0, 4)} {
		for _, l := range [][]int{nil, {}, make([]int, 0, 4)} {
			holds(t, made(t, names, l), nil, nil)
		}
	}
}

// P7.1: things of any type.
func TestThings(t *testing.T) {
	type pair struct {
		a int
		b string
	}
	names := []string{"", "b", "ba", "c"}
	n, other := new(int), new(int)
	holds(t, made(t, names, []string{"3", "", "1", "1"}), names, []string{"3", "", "1", "1"})
	holds(t, made(t, names, []bool{true, false, true, false}), names, []bool{true, false, true, false})
	holds(t, made(t, names, []pair{{1, "x"}, {}, {2, "y"}, {}}), names, []pair{{1, "x"}, {}, {2, "y"}, {}})
	holds(t, made(t, names, []*int{n, nil, other, n}), names, []*int{n, nil, other, n})
	holds(t, made(t, names, []struct{}{{}, {}, {}, {}}), names, []struct{}{{}, {}, {}, {}})
	holds(t, made(t, names, []any{1, nil, "x", n}), names, []any{1, nil, "x", n})
	holds(t, made(t, names, []float64{0.5, 0, -1, 2}), names, []float64{0.5, 0, -1, 2})
	d := made(t, names, [][]int{{1}, nil, {2, 3}, {}})
	if v, ok := d.Find("ba"); !ok || !slices.Equal(v, []int{2, 3}) {
		t.Error(v, ok)
	}
	if v, ok := d.Find("bb"); ok || v != nil {
		t.Error(v, ok)
	}
	if name, v := d.At(4); name != "" || v != nil {
		t.Error(name, v)
	}
	f := made(t, names, []func() int{nil, nil, nil, func() int { return 7 }})
	if v, ok := f.Find("c"); !ok || v() != 7 {
		t.Error(ok)
	}
}

// P7.2, From: from each place, left behind each name, and once more.
func TestFrom(t *testing.T) {
	for _, names := range lists() {
		l := things(names)
		d := made(t, names, l)
		for i := range len(names) + 1 {
			all := d.From(i)
			for range 2 {
				for many := range len(names) - i + 1 {
					if n, v := told(all, many); !slices.Equal(n, names[i:i+many]) || !slices.Equal(v, l[i:i+many]) {
						t.Fatalf("of %q: From(%d), the first %d: %q, %v", names, i, many, n, v)
					}
				}
			}
		}
	}
}

// P7.2, From: one inside the other.
func TestFromInside(t *testing.T) {
	names := []string{"a", "b", "c", "d"}
	d := made(t, names, []int{1, 2, 3, 4})
	all := d.From(1)
	got := ""
	for a := range all {
		for b := range all {
			got += a + b + " "
			if b == "c" {
				break
			}
		}
	}
	if got != "bb bc cb cc db dc " {
		t.Error(got)
	}
}

// P7.4: what is found is what stands at the place.
func TestFoundStands(t *testing.T) {
	for _, names := range lists() {
		d := made(t, names, things(names))
		for _, name := range asked(names) {
			i, is := d.Place(name)
			v, ok := d.Find(name)
			at, thing := d.At(i)
			if is != ok || is && (at != name || thing != v) || !is && v != 0 {
				t.Fatalf("of %q: %q stands at %d, %v; there are %q, %d; found is %d, %v", names, name, i, is, at, thing, v, ok)
			}
		}
	}
}

// all is every name of lists, told one by one.
func all(l [][]string) []string {
	var names []string
	for _, list := range l {
		names = append(names, list...)
	}
	return rising(names)
}

func joins(t *testing.T, l [][]string) {
	t.Helper()
	if got, want := dict.Join(l), all(l); !slices.Equal(got, want) {
		t.Fatalf("of %q: %q, want %q", l, got, want)
	}
}

// P7.3, Join: each name once, rising, whatever the row of names and lists.
func TestJoin(t *testing.T) {
	for _, l := range [][][]string{
		nil, {}, {nil}, {{}}, {nil, {}, nil}, {{""}}, {{"", ""}}, {{""}, {""}}, {{"b", "a"}, nil, {"c", "b"}}, {{"a"}}, {{"a", "a", "a"}}, {{"c", "b", "a"}},
		{{"a"}, {"a"}, {"a"}}, {{"b"}, {"a"}}, {{"z"}, {"\x80"}, {"ä", "\xff", "\x7f"}}, {{"ab", "a"}, {"a", "", "abc"}}, {{"a\x00", "a"}, {"a\x00\x00", "a\x01"}},
		{nil, {"x"}, nil, nil, {"w", "x"}, nil},
	} {
		joins(t, l)
	}
	pick := chance(72)
	for range 2000 {
		l := make([][]string, pick(9))
		for i := range l {
			for range pick(8) {
				l[i] = append(l[i], some(pick))
			}
		}
		joins(t, l)
	}
	joins(t, lists())
}

// P7.3, Join: what is joined makes a dictionary.
func TestJoinMakes(t *testing.T) {
	names := dict.Join([][]string{{"b", "", "b"}, {"a", "c"}, {"b", "a"}})
	holds(t, made(t, names, []int{5, 6, 7, 8}), []string{"", "a", "b", "c"}, []int{5, 6, 7, 8})
}

// P7.3, Join: many lists, and long ones, end soon.
func TestJoinMany(t *testing.T) {
	const many = 50000
	one, each, long := make([][]string, many), make([][]string, many), make([][]string, 2)
	var want []string
	for i := range many {
		name := strconv.Itoa(many + i)
		want = append(want, name)
		one[i], each[many-1-i] = []string{"same"}, []string{name}
		long[i%2] = append(long[i%2], name)
	}
	if got := dict.Join(one); !slices.Equal(got, []string{"same"}) {
		t.Error(len(got))
	}
	for _, l := range [][][]string{each, long} {
		if got := dict.Join(l); !slices.Equal(got, want) {
			t.Error(len(got))
		}
	}
}

// P7.3, Probes.
func TestProbes(t *testing.T) {
	for _, n := range []int{0, -1, -2, -5, -255, math.MinInt32, math.MinInt + 1, math.MinInt} {
		if got := dict.Probes(n); got != 0 {
			t.Errorf("of %d: %d", n, got)
		}
	}
	ask := func(n int) {
		t.Helper()
		if got, want := dict.Probes(n), len(strconv.FormatInt(int64(n), 2)); got != want {
			t.Errorf("of %d: %d, want %d", n, got, want)
		}
	}
	for n := 1; n < 2000; n++ {
		ask(n)
	}
	for k := 1; k < 63; k++ {
		ask(1<<k - 1)
		ask(1 << k)
		ask(1<<k + 1)
	}
	ask(math.MaxInt)
}

// spoil changes a list, and what may stand behind it.
func spoil[V any](l []V, by V) {
	for i := range l {
		l[i] = by
	}
	_ = append(l, by, by)
	_ = append(l[:0], by)
}

// R4: what is handed in is not kept, what is answered is new memory.
func TestAnswersAreNew(t *testing.T) {
	for _, names := range lists() {
		l := things(names)
		in, with := append(make([]string, 0, len(names)+9), names...), append(make([]int, 0, len(l)+9), l...)
		d := made(t, in, with)
		spoil(in, "spoilt")
		spoil(with, 77)
		holds(t, d, names, l)
		keep := d.Names()
		spoil(d.Names(), "spoilt")
		if !slices.Equal(keep, names) {
			t.Fatal("Names tells one memory twice")
		}
		spoil(keep, "spoilt")
		holds(t, d, names, l)
	}
}

// R4: neither Make nor Join changes what is handed in, nor its spare room; what Join answers shares nothing with it.
func TestHandedInStays(t *testing.T) {
	room := []string{"c", "a", "a", "b", "spare", "room"}
	lists := [][][]string{{room[:4]}, {room[:4], room[:2]}, {nil, room[:4]}, {room[:4], nil, {}}, {room[:1], room[1:2], room[3:4]}, {room[1:2]}}
	for _, l := range lists {
		was := slices.Clone(l)
		got := dict.Join(l)
		spoil(got, "spoilt")
		if !slices.Equal(room, []string{"c", "a", "a", "b", "spare", "room"}) {
			t.Fatalf("%q", room)
		}
		for i := range l {
			if !slices.Equal(l[i], was[i]) {
				t.Fatalf("%q", l)
			}
		}
	}
	names, things := []string{"a", "b", "spare"}, []int{1, 2, 3}
	made(t, names[:2], things[:2])
	dict.Make(names[:1], things[:2])
	if !slices.Equal(names, []string{"a", "b", "spare"}) || !slices.Equal(things, []int{1, 2, 3}) {
		t.Error(names, things)
	}
}

// P7.2: many names are found soon, and all of them.
func TestMany(t *testing.T) {
	const many = 200000
	var names []string
	for i := range many {
		names = append(names, strconv.Itoa(2*i+1000000))
	}
	l := things(names)
	d := made(t, names, l)
	for i := range many {
		if k, ok := d.Place(names[i]); k != i || !ok {
			t.Fatal(k, ok)
		}
		if k, ok := d.Place(strconv.Itoa(2*i + 1000001)); k != i+1 || ok {
			t.Fatal(k, ok)
		}
		if from, to := d.Prefix(names[i][:6]); from != i/5*5 || to != i/5*5+5 {
			t.Fatal(names[i], from, to)
		}
	}
	if from, to := d.Prefix("1"); from != 0 || to != many {
		t.Error(from, to)
	}
}
