package segment_test

import (
	"maps"
	"math"
	"slices"
	"strconv"
	"strings"
	"testing"
	"unicode"

	"concordance/api"
	"concordance/buffer"
	"concordance/cursor"
	"concordance/segment"
)

const most = 1<<31 - 1 // the greatest place

// chance tells numbers that seem to come by chance, the same ones each time.
func chance(seed uint64) func(n int) int {
	return func(n int) int {
		seed = seed*6364136223846793005 + 1442695040888963407
		return int(seed>>33) % n
	}
}

// of is an entry of a number, and of a document of these names and texts, by turns.
func of(seq int, l ...string) api.Entry {
	e := api.Entry{Doc: api.Doc{Id: 100 - seq}, Seq: seq}
	for i := 0; i < len(l); i += 2 {
		e.Doc.Fields = append(e.Doc.Fields, api.Field{Name: l[i], Text: l[i+1]})
	}
	return e
}

// some is an entry by chance, of few words, so that they often stand twice.
func some(seq int, pick func(n int) int) api.Entry {
	parts := []string{"a", "b", "c", "A", "ab", "1", "ä", " ", " ", ".", "\xff", "\x00", " a ", " b ", "a b"}
	names := []string{"t", "u", "ta", "b"}
	e := api.Entry{Doc: api.Doc{Id: pick(9) - 4}, Seq: seq}
	for range pick(5) {
		k := pick(len(names))
		f := api.Field{Name: names[k]}
		names = slices.Delete(names, k, k+1)
		for range pick(15) {
			f.Text += parts[pick(len(parts))]
		}
		e.Doc.Fields = append(e.Doc.Fields, f)
	}
	return e
}

// rows are entries, such as a buffer takes: none, the edges, all lengths about a block's, and some by chance.
func rows() [][]api.Entry {
	words := ""
	for i := range 500 {
		words += strconv.Itoa(i*i) + "W "
	}
	l := [][]api.Entry{
		nil, {}, {of(0)}, {of(7, "t", "")}, {of(math.MaxInt, "t", "a")}, {of(0, "t", "a b a")},
		{of(0), of(1, "t", " .,\xff"), of(2, "t", "B, a b! a b", "ta", "b", "u", "a"), of(5), of(9, "a", "t", "t", "It's 3PM, it's 3pm")},
		{of(3, "tt", "a b", "t", "ta b", "tta", ""), of(4, "t", words), of(5, "t", strings.Repeat("a ", 250), "u", strings.Repeat("b a ", 125)), of(6, "t", strings.Repeat("X", 30)+" Ä ä ÿ 0 z")},
		{{Doc: api.Doc{Id: math.MinInt}, Seq: 0}, {Doc: api.Doc{Id: math.MaxInt}, Seq: 1}, {Doc: api.Doc{Id: -1}, Seq: math.MaxInt - 1}, {Doc: api.Doc{Id: -1}, Seq: math.MaxInt}},
	}
	pick := chance(101)
	for many := 1; many < 35; many++ {
		var same, other []api.Entry
		for i := range many {
			same = append(same, of(3*i, "t", "a"))
			other = append(other, some(5*i+pick(5), pick))
		}
		l = append(l, same, other)
	}
	return l
}

// cut is a text's words, told in another way; it holds for the texts of these tests.
func cut(s string) []string {
	return strings.FieldsFunc(strings.ToLower(s), func(r rune) bool {
		return r > 591 || !unicode.IsLetter(r) && !unicode.IsDigit(r)
	})
}

// parts are those of a segment of these entries, gathered word by word.
func parts(l []api.Entry) segment.Parts {
	p, lists := segment.Parts{}, map[string][]api.Posting{}
	for i, e := range l {
		p.Ids, p.Seqs = append(p.Ids, e.Doc.Id), append(p.Seqs, e.Seq)
		for _, f := range e.Doc.Fields {
			for place, w := range cut(f.Text) {
				key := f.Name + "\x00" + w
				if k := len(lists[key]); k == 0 || lists[key][k-1].Doc != i {
					lists[key] = append(lists[key], one(i))
				}
				k := len(lists[key]) - 1
				lists[key][k].Places = append(lists[key][k].Places, place)
			}
		}
	}
	for _, key := range slices.Sorted(maps.Keys(lists)) {
		p.Keys, p.Lists = append(p.Keys, key), append(p.Lists, lists[key])
	}
	return p
}

// one is a posting.
func one(doc int, places ...int) api.Posting {
	return api.Posting{Doc: doc, Places: places}
}

// whole is a list of so many documents, from the first one on.
func whole(many int) []api.Posting {
	var l []api.Posting
	for i := range many {
		l = append(l, one(i, i%7, 7+200*i))
	}
	return l
}

// upto are the numbers from 0 on that are below one.
func upto(many int) []int {
	var l []int
	for i := range many {
		l = append(l, i)
	}
	return l
}

// all are parts that may be: the edges, lists of all lengths about a block's, those of entries, and some by chance.
func all() []segment.Parts {
	l := []segment.Parts{
		{}, {Ids: []int{}, Seqs: []int{}, Keys: []string{}, Lists: [][]api.Posting{}},
		{Ids: []int{9}, Seqs: []int{0}}, {Ids: []int{-1, -1, math.MinInt, math.MaxInt}, Seqs: []int{0, 1, math.MaxInt - 1, math.MaxInt}},
		{Ids: []int{4}, Seqs: []int{3}, Keys: []string{""}, Lists: [][]api.Posting{{one(0, 0)}}},
		{Ids: []int{4, 5}, Seqs: []int{3, 4}, Keys: []string{"\x00"}, Lists: [][]api.Posting{{one(0, most), one(1, 0, 1, most-1, most)}}},
		{Ids: []int{1, 2, 3}, Seqs: []int{2, 4, 9}, Keys: []string{"", "\x00", "\x00\x00", "a", "a\x00", "a\x00\x00", "a\x00b", "aa", "b", "t\x00a b", "z", "\xc3", "\xff", "\xff\xff"},
			Lists: [][]api.Posting{{one(0, 0)}, {one(1, 1)}, {one(2, 2)}, {one(0, 3), one(2, 4)}, {one(1, 5), one(2, 6)}, {one(0, 7), one(1, 8), one(2, 9)}, {one(2, 0)}, {one(1, 0)}, {one(0, 0)}, {one(2, 1)}, {one(2, 2)}, {one(1, 3)}, {one(1, 4)}, {one(0, 5)}}},
	}
	for _, many := range []int{1, 7, 8, 9, 15, 16, 17, 24, 25, 300} {
		w := whole(many)
		l = append(l, segment.Parts{Ids: upto(many), Seqs: upto(many), Keys: []string{"t\x00a", "t\x00b", "u\x00a"}, Lists: [][]api.Posting{w, w[many-1:], w[many/2:]}})
	}
	for _, entries := range rows() {
		l = append(l, parts(entries))
	}
	pick := chance(102)
	for range 60 {
		l = append(l, random(pick))
	}
	return l
}

// random are parts by chance.
func random(pick func(n int) int) segment.Parts {
	p, seq := segment.Parts{}, -1
	for range 1 + pick(40) {
		seq += 1 + pick(1<<pick(20))
		p.Ids, p.Seqs = append(p.Ids, pick(9)-4), append(p.Seqs, seq)
	}
	key := "t\x00"
	for range pick(12) {
		key += string([]byte{byte(pick(256))})
		var l []api.Posting
		for i := range p.Ids {
			if pick(3) > 0 || i == len(p.Ids)-1 && len(l) == 0 {
				l = append(l, one(i, pick(100), 100+pick(1<<pick(30))))
			}
		}
		p.Keys, p.Lists = append(p.Keys, key), append(p.Lists, l)
	}
	return p
}

// size is how many bytes a list has, as chapters 4 and 5 tell it.
func size(l []api.Posting) int {
	n, doc := 0, -1
	for _, p := range l {
		n += digits(p.Doc-doc-1) + digits(len(p.Places))
		doc = p.Doc
		place := -1
		for _, x := range p.Places {
			n += digits(x - place - 1)
			place = x
		}
	}
	return n
}

// digits is how many digits a number has to the base 128.
func digits(n int) int {
	if n < 128 {
		return 1
	}
	return 1 + digits(n/128)
}

func samePostings(a, b []api.Posting) bool {
	return slices.EqualFunc(a, b, func(a, b api.Posting) bool { return a.Doc == b.Doc && slices.Equal(a.Places, b.Places) })
}

func sameParts(a, b segment.Parts) bool {
	return slices.Equal(a.Ids, b.Ids) && slices.Equal(a.Seqs, b.Seqs) && slices.Equal(a.Keys, b.Keys) && slices.EqualFunc(a.Lists, b.Lists, samePostings)
}

// clone are the same parts, in memory of their own, with room behind each list, so that what is written there is seen.
func clone(p segment.Parts) segment.Parts {
	c := segment.Parts{Ids: roomy(p.Ids, 71), Seqs: roomy(p.Seqs, 72), Keys: roomy(p.Keys, "room"), Lists: roomy(p.Lists, []api.Posting{one(73, 73)})}
	for i, l := range c.Lists {
		c.Lists[i] = roomy(l, one(74, 74))
		for k, q := range c.Lists[i] {
			c.Lists[i][k].Places = roomy(q.Places, 75)
		}
	}
	return c
}

func roomy[V any](l []V, behind V) []V {
	c := append(slices.Clone(l), behind, behind)
	return c[:len(l)]
}

// spare tells whether what stands in the room behind each list is what clone laid there.
func spare(p segment.Parts) bool {
	room := func(l []int, want int) bool {
		return slices.Equal(l[len(l):len(l)+2], []int{want, want})
	}
	ok := room(p.Ids, 71) && room(p.Seqs, 72) && slices.Equal(p.Keys[len(p.Keys):len(p.Keys)+2], []string{"room", "room"})
	ok = ok && samePostings(p.Lists[:len(p.Lists)+1][len(p.Lists)], []api.Posting{one(73, 73)})
	for _, l := range p.Lists {
		ok = ok && samePostings(l[len(l):len(l)+2], []api.Posting{one(74, 74), one(74, 74)})
		for _, q := range l {
			ok = ok && room(q.Places, 75)
		}
	}
	return ok
}

// term is the term of a key, and whether there is one.
func term(key string) (api.Term, bool) {
	field, w, ok := strings.Cut(key, "\x00")
	return api.Term{Field: field, Word: w}, ok
}

// others are keys that no segment of these tests has.
func others() []string {
	return []string{"t\x00A", "t\x00a\x00\x00", "t\x00a ", "t\x00 a", "t:a", "T\x00a", "tu\x00a", "\x00a", "\x00\x00\x00", "\xff\xff\xff", "x\x00a", "t"}
}

// walk holds a cursor against a list: ahead of all, posting by posting, behind all.
func walk(t *testing.T, c *cursor.Cursor, l []api.Posting) {
	t.Helper()
	if c == nil {
		t.Fatal("no cursor")
	}
	if c.Doc() != -1 || c.Count() != 0 || c.Reads() != 0 {
		t.Fatalf("a new cursor stands at %d, with %d reads", c.Doc(), c.Reads())
	}
	for _, p := range l {
		if doc := c.Next(); doc != p.Doc || c.Doc() != doc || !slices.Equal(c.Places(), p.Places) || c.Count() != len(p.Places) {
			t.Fatalf("%d at %v, want %v", doc, c.Places(), p)
		}
	}
	if c.Next() != cursor.End || c.Reads() != (len(l)+7)/8 {
		t.Fatalf("behind %v: %d, %d reads", l, c.Doc(), c.Reads())
	}
}

// check holds all that a segment tells against its parts.
func check(t *testing.T, s *segment.Segment, want segment.Parts) {
	t.Helper()
	if s == nil {
		t.Fatal("no segment")
	}
	if got := s.Parts(); !sameParts(got, want) {
		t.Fatalf("Parts: %v, want %v", got, want)
	}
	n := len(want.Ids)
	if s.Len() != n {
		t.Fatalf("Len: %d, want %d", s.Len(), n)
	}
	for i := range n {
		if s.Id(i) != want.Ids[i] || s.Seq(i) != want.Seqs[i] {
			t.Fatalf("at %d: %d, %d, want %d, %d", i, s.Id(i), s.Seq(i), want.Ids[i], want.Seqs[i])
		}
	}
	for _, i := range []int{-1, -2, -n, -n - 1, math.MinInt, n, n + 1, 2 * n, 1 << 31, math.MaxInt} {
		if (i < 0 || i >= n) && (s.Id(i) != -1 || s.Seq(i) != -1) {
			t.Fatalf("at %d of %d: %d, %d", i, n, s.Id(i), s.Seq(i))
		}
	}
	checkAbove(t, s, want.Seqs)
	checkLists(t, s, want)
}

func checkAbove(t *testing.T, s *segment.Segment, seqs []int) {
	t.Helper()
	l := []int{math.MinInt, -2, -1, 0, 1, 2, 1 << 31, math.MaxInt - 1, math.MaxInt}
	for _, seq := range seqs {
		l = append(l, seq-1, seq, seq+1)
	}
	for _, seq := range l {
		want := 0
		for _, x := range seqs {
			if x >= seq {
				want++
			}
		}
		if got := s.Above(seq); got != want {
			t.Fatalf("Above(%d) of %v: %d, want %d", seq, seqs, got, want)
		}
	}
}

func checkLists(t *testing.T, s *segment.Segment, want segment.Parts) {
	t.Helper()
	if got := s.Keys(); !slices.Equal(got, want.Keys) {
		t.Fatalf("Keys: %q, want %q", got, want.Keys)
	}
	bytes, keys, lists := 0, slices.Clone(want.Keys), slices.Clone(want.Lists)
	for _, l := range want.Lists {
		bytes += size(l)
	}
	if s.Bytes() != bytes {
		t.Fatalf("Bytes: %d, want %d", s.Bytes(), bytes)
	}
	for _, key := range append(others(), "", "\x00", "a", "b", "t\x00", "t\x00a", "u\x00a") {
		if !slices.Contains(keys, key) {
			keys, lists = append(keys, key), append(lists, nil)
		}
	}
	for i, key := range keys {
		if got := s.Postings(key); !samePostings(got, lists[i]) {
			t.Fatalf("Postings(%q): %v, want %v", key, got, lists[i])
		}
		if x, ok := term(key); ok {
			if got := s.Count(x); got != len(lists[i]) {
				t.Fatalf("Count(%q): %d, want %d", x, got, len(lists[i]))
			}
			walk(t, s.Cursor(x), lists[i])
		}
	}
}

// made is a segment of parts that may be.
func made(t *testing.T, p segment.Parts) *segment.Segment {
	t.Helper()
	if !segment.May(p) {
		t.Fatalf("%v may not be", p)
	}
	s, e := segment.Make(p)
	if s == nil || e != api.OK {
		t.Fatalf("%v: %v", p, e)
	}
	return s
}

// built is a segment of entries that a buffer takes.
func built(t *testing.T, l []api.Entry) *segment.Segment {
	t.Helper()
	s, e := segment.Build(l)
	if s == nil || e != api.OK {
		t.Fatalf("%v: %v", l, e)
	}
	return s
}

// The document's example.
func TestExample(t *testing.T) {
	s := built(t, nil)
	if s.Len() != 0 || len(s.Keys()) != 0 {
		t.Error(s.Len(), s.Keys())
	}
	check(t, s, segment.Parts{})
}

// P10.1, P10.2: all that a segment of parts tells.
func TestMade(t *testing.T) {
	for _, p := range all() {
		check(t, made(t, p), p)
	}
}

// P10.1, P10.2: all that a segment of entries tells.
func TestBuilt(t *testing.T) {
	for _, l := range rows() {
		check(t, built(t, l), parts(l))
	}
}

// P10.1, Build: what a buffer of the entries has.
func TestBuiltIsBuffer(t *testing.T) {
	for _, l := range rows() {
		s, b := built(t, l), buffer.New()
		for _, e := range l {
			if no := b.Add(e); no != api.OK {
				t.Fatal(no)
			}
		}
		if s.Len() != b.Len() || !slices.Equal(s.Keys(), b.Keys()) || len(l) > 0 && s.Seq(s.Len()-1) != b.Last() {
			t.Fatalf("%d documents with %q, a buffer has %d with %q", s.Len(), s.Keys(), b.Len(), b.Keys())
		}
		for _, key := range append(b.Keys(), others()...) {
			if !samePostings(s.Postings(key), b.Postings(key)) {
				t.Fatalf("%q: %v, a buffer has %v", key, s.Postings(key), b.Postings(key))
			}
		}
		for i, e := range b.Entries() {
			if s.Id(i) != e.Doc.Id || s.Seq(i) != e.Seq {
				t.Fatalf("at %d: %d, %d", i, s.Id(i), s.Seq(i))
			}
		}
	}
}

// P10.1, Build: each error of Add, wherever the entry stands; the first one's is told.
func TestBuildErrors(t *testing.T) {
	nine := of(5, "a", "", "b", "", "c", "", "d", "", "e", "", "f", "", "g", "", "h", "", "i", "")
	half := strings.Repeat("a ", 250)
	for _, c := range []struct {
		e    api.Entry
		want api.Errno
	}{
		{of(-1, "t", "a"), api.ErrState}, {of(math.MinInt), api.ErrState}, {of(5, "", "a"), api.ErrName}, {of(-1, "T", "a"), api.ErrName}, {nine, api.ErrMany},
		{of(5, "t", "a", "t", "b"), api.ErrTwice}, {of(5, "t", strings.Repeat("x", 31)), api.ErrLong}, {of(5, "t", half, "u", half+"a"), api.ErrMany},
	} {
		for _, l := range [][]api.Entry{
			{c.e}, {c.e, of(7, "T", "a"), of(-1), nine}, {of(0, "t", "a"), c.e}, {of(0), of(3, "t", "b"), c.e, of(9)}, {of(0), c.e, of(0), of(1, "t", "a", "t", "a")},
		} {
			if s, e := segment.Build(l); s != nil || e != c.want {
				t.Errorf("%v: %v, want %v", l, e, c.want)
			}
		}
	}
	for _, seqs := range [][]int{{0, 0}, {1, 0}, {3, 3, 4}, {3, 4, 4}, {3, 4, 3}, {5, 6, 7, 2}, {math.MaxInt, math.MaxInt}, {math.MaxInt, 0}, {math.MaxInt, math.MinInt}, {2, -1}} {
		var l []api.Entry
		for _, seq := range seqs {
			l = append(l, of(seq, "t", "a"))
		}
		if s, e := segment.Build(l); s != nil || e != api.ErrState {
			t.Errorf("%v: %v", seqs, e)
		}
	}
}

// good are parts that may be, of which the tests spoil one thing each.
func good() segment.Parts {
	w := whole(10)
	return segment.Parts{Ids: upto(10), Seqs: []int{0, 2, 3, 5, 8, 9, 20, 21, 30, math.MaxInt}, Keys: []string{"", "b\x00a", "b\x00c", "t\x00a"}, Lists: [][]api.Posting{w[:1], w[3:4], w, w[9:]}}
}

func refused(t *testing.T, p segment.Parts) {
	t.Helper()
	if segment.May(p) {
		t.Errorf("%v may be", p)
	}
	if s, e := segment.Make(p); s != nil || e != api.ErrArg {
		t.Errorf("%v: %v", p, e)
	}
}

// P10.1, May and Make: what are not as many.
func TestNotAsMany(t *testing.T) {
	for _, change := range []func(p *segment.Parts){
		func(p *segment.Parts) { p.Ids = nil }, func(p *segment.Parts) { p.Seqs = nil }, func(p *segment.Parts) { p.Keys = nil }, func(p *segment.Parts) { p.Lists = nil },
		func(p *segment.Parts) { p.Ids = p.Ids[1:] }, func(p *segment.Parts) { p.Seqs = p.Seqs[1:] }, func(p *segment.Parts) { p.Keys = p.Keys[1:] }, func(p *segment.Parts) { p.Lists = p.Lists[1:] },
		func(p *segment.Parts) { p.Ids = append(p.Ids, 1) }, func(p *segment.Parts) { p.Seqs[9], p.Seqs = 40, append(p.Seqs, 50) },
		func(p *segment.Parts) { p.Keys = append(p.Keys, "z") }, func(p *segment.Parts) { p.Lists = append(p.Lists, whole(3)) },
	} {
		p := clone(good())
		change(&p)
		refused(t, p)
	}
	refused(t, segment.Parts{Ids: []int{0}})
	refused(t, segment.Parts{Seqs: []int{0}})
	refused(t, segment.Parts{Keys: []string{""}})
	refused(t, segment.Parts{Lists: [][]api.Posting{nil}})
	refused(t, segment.Parts{Ids: []int{0}, Seqs: []int{0}, Keys: []string{"a"}})
	refused(t, segment.Parts{Ids: []int{0}, Seqs: []int{0}, Lists: [][]api.Posting{{one(0, 0)}}})
	made(t, good())
}

// P10.1, May and Make: Seqs that do not rise, or begin below 0.
func TestSeqsRise(t *testing.T) {
	for at := range 10 {
		for _, seq := range []int{-1, -2, math.MinInt} {
			p := clone(good())
			p.Seqs[at] = seq
			refused(t, p)
		}
		for other := range at {
			p := clone(good())
			p.Seqs[at] = p.Seqs[other]
			refused(t, p)
			p = clone(good())
			p.Seqs[at], p.Seqs[other] = p.Seqs[other], p.Seqs[at]
			refused(t, p)
		}
	}
	refused(t, segment.Parts{Ids: []int{5}, Seqs: []int{-1}})
	refused(t, segment.Parts{Ids: []int{5, 5}, Seqs: []int{math.MaxInt, math.MinInt}})
}

// P10.1, May and Make: Keys that do not rise, byte by byte, wherever they stand.
func TestKeysRise(t *testing.T) {
	for _, two := range [][]string{{"", ""}, {"a", "a"}, {"b", "a"}, {"a", ""}, {"aa", "a"}, {"a\x00", "a"}, {"ÿ", "z"}, {"\xff", "\xc3\xbf"}, {"a", "B"}, {"t\x00a", "t"}, {"9", "10"}} {
		for _, keys := range [][]string{two, append([]string{""}, two...), append([]string{"", "\x00"}, two...), append(slices.Clone(two), "\xff\xff"), append(slices.Clone(two), "\xff\xff", "\xff\xff\xff")} {
			p := clone(good())
			p.Keys, p.Lists = keys, p.Lists[:len(keys):len(keys)]
			refused(t, p)
		}
	}
	for at := range 4 {
		for other := range at {
			p := clone(good())
			p.Keys[at] = p.Keys[other]
			refused(t, p)
			p = clone(good())
			p.Keys[at], p.Keys[other] = p.Keys[other], p.Keys[at]
			refused(t, p)
		}
	}
}

// P10.1, May and Make: a list that may not be, is of no posting, or has a document that there is not, whatever key it stands at.
func TestWrongLists(t *testing.T) {
	w := whole(10)
	for at := range 4 {
		for _, l := range [][]api.Posting{
			nil, {}, {one(10, 0)}, {one(11, 0)}, {one(math.MaxInt, 0)}, {one(1<<31, 0)}, {one(-1, 0)}, {one(math.MinInt, 0)}, append(slices.Clone(w), one(10, 0)), append(slices.Clone(w[:3]), one(12, 1)),
			{one(0)}, {one(9)}, {one(3, -1)}, {one(3, 1, 1)}, {one(3, 2, 1)}, {one(3, most+1)}, {one(3, math.MaxInt)}, {one(3, 1), one(3, 2)}, {one(4, 1), one(3, 1)}, {one(11, 1), one(3, 1)},
			{one(-1, 1), one(3, 1)}, {one(0, 1), one(1), one(2, 1)}, append(slices.Clone(w[:9]), one(8, 0)), append(slices.Clone(w[:9]), one(9, 5, 5)), append([]api.Posting{one(0)}, w[1:]...),
		} {
			p := clone(good())
			p.Lists[at] = l
			refused(t, p)
		}
	}
	for many := range 20 {
		for doc := range 22 {
			p := segment.Parts{Ids: upto(many), Seqs: upto(many), Keys: []string{"k"}, Lists: [][]api.Posting{{one(doc, 0)}}}
			if doc < many {
				check(t, made(t, p), p)
			} else {
				refused(t, p)
			}
		}
	}
	none := segment.Parts{Keys: []string{"k"}, Lists: [][]api.Posting{nil}}
	refused(t, none)
	none.Lists[0] = []api.Posting{one(0, 0)}
	refused(t, none)
}

// P10.2, Id and Seq: Ids are told as they are, -1 too, though that is told where there is none.
func TestIdsAsTheyAre(t *testing.T) {
	s := made(t, segment.Parts{Ids: []int{-1, math.MinInt, 0, math.MaxInt, -1}, Seqs: []int{0, 1, 2, 3, 4}})
	for i, want := range []int{-1, math.MinInt, 0, math.MaxInt, -1, -1, -1} {
		if s.Id(i) != want {
			t.Errorf("%d: %d", i, s.Id(i))
		}
	}
	if s.Len() != 5 || s.Seq(0) != 0 || s.Seq(5) != -1 {
		t.Error(s.Len())
	}
}

// P10.2, Cursor and Count: the key of a term is asked, so that two terms of one key are told the same.
func TestTermsOfOneKey(t *testing.T) {
	p := segment.Parts{Ids: upto(3), Seqs: upto(3), Keys: []string{"", "t", "t\x00a\x00b"}, Lists: [][]api.Posting{{one(0, 4)}, {one(1, 4)}, {one(0, 1), one(2, 2)}}}
	s := made(t, p)
	for _, x := range []api.Term{{Field: "t\x00a", Word: "b"}, {Field: "t", Word: "a\x00b"}} {
		walk(t, s.Cursor(x), p.Lists[2])
		if s.Count(x) != 2 {
			t.Errorf("%q: %d", x, s.Count(x))
		}
	}
	for _, x := range []api.Term{{}, {Field: "t"}, {Word: "t"}, {Field: "t", Word: "a"}, {Field: "t\x00a\x00b"}, {Word: "t\x00a\x00b"}} {
		walk(t, s.Cursor(x), nil)
		if s.Count(x) != 0 {
			t.Errorf("%q: %d", x, s.Count(x))
		}
	}
}

// P10.2, Cursor: a leap reads one block, and cursors of one list do not hang on each other.
func TestCursors(t *testing.T) {
	const many = 5000
	s := made(t, segment.Parts{Ids: upto(many), Seqs: upto(many), Keys: []string{"t\x00a"}, Lists: [][]api.Posting{whole(many)}})
	x := api.Term{Field: "t", Word: "a"}
	a, b := s.Cursor(x), s.Cursor(x)
	if a.Advance(4321) != 4321 || a.Reads() != 1 || !slices.Equal(a.Places(), []int{4321 % 7, 7 + 200*4321}) {
		t.Error(a.Doc(), a.Reads(), a.Places())
	}
	if b.Doc() != -1 || b.Next() != 0 || b.Advance(many) != cursor.End || b.Reads() != 1 || a.Next() != 4322 {
		t.Error(a.Doc(), b.Doc(), b.Reads())
	}
	walk(t, s.Cursor(x), whole(many))
}

// P10.2, Bytes: of lists that are written out.
func TestBytes(t *testing.T) {
	for _, c := range []struct {
		lists [][]api.Posting
		want  int
	}{
		{nil, 0}, {[][]api.Posting{{one(0, 0)}}, 3}, {[][]api.Posting{{one(3, 0, 2)}}, 4}, {[][]api.Posting{{one(3, 0, 2)}, {one(0, 127)}, {one(9, 128)}}, 4 + 3 + 4},
		{[][]api.Posting{{one(0, 300), one(1, 0, 300)}}, 4 + 5}, {[][]api.Posting{{one(0, most)}, {one(0, most)}}, 7 + 7},
	} {
		p := segment.Parts{Ids: upto(10), Seqs: upto(10), Lists: c.lists}
		for i := range c.lists {
			p.Keys = append(p.Keys, "k"+strconv.Itoa(i))
		}
		if n := made(t, p).Bytes(); n != c.want {
			t.Errorf("%v: %d, want %d", c.lists, n, c.want)
		}
	}
}

// P10.2, Same: nils; and of each two parts whether they are the same.
func TestSame(t *testing.T) {
	l := all()
	var made1, made2 []*segment.Segment
	for _, p := range l {
		made1, made2 = append(made1, made(t, p)), append(made2, made(t, clone(p)))
	}
	if !segment.Same(nil, nil) {
		t.Error("two nils")
	}
	for i := range l {
		if segment.Same(made1[i], nil) || segment.Same(nil, made1[i]) || !segment.Same(made1[i], made1[i]) {
			t.Fatalf("%v and nil", l[i])
		}
		for k := range l {
			if segment.Same(made1[i], made2[k]) != sameParts(l[i], l[k]) {
				t.Fatalf("%v and %v: %v", l[i], l[k], sameParts(l[i], l[k]))
			}
		}
	}
}

// P10.2, Same: each single thing that is another one makes another segment.
func TestNotSame(t *testing.T) {
	s := made(t, good())
	for i, change := range []func(p *segment.Parts){
		func(p *segment.Parts) { p.Ids[0] = -7 }, func(p *segment.Parts) { p.Ids[9] = 10 }, func(p *segment.Parts) { p.Ids[3], p.Ids[4] = p.Ids[4], p.Ids[3] },
		func(p *segment.Parts) { p.Seqs[0] = 1 }, func(p *segment.Parts) { p.Seqs[9]-- }, func(p *segment.Parts) { p.Seqs[4] = 7 },
		func(p *segment.Parts) { p.Ids, p.Seqs = append(p.Ids, 10), append(p.Seqs[:9:9], 40, 41) },
		func(p *segment.Parts) { p.Keys[0] = "a" }, func(p *segment.Parts) { p.Keys[3] += "\x00" },
		func(p *segment.Parts) { p.Keys, p.Lists = p.Keys[1:], p.Lists[1:] }, func(p *segment.Parts) { p.Keys, p.Lists = p.Keys[:3], p.Lists[:3] }, func(p *segment.Parts) { p.Keys, p.Lists = nil, nil },
		func(p *segment.Parts) { p.Keys, p.Lists = append(p.Keys, "z"), append(p.Lists, p.Lists[0]) },
		func(p *segment.Parts) { p.Lists[0], p.Lists[1] = p.Lists[1], p.Lists[0] }, func(p *segment.Parts) { p.Lists[0] = whole(2) },
		func(p *segment.Parts) { p.Lists[2] = p.Lists[2][1:] }, func(p *segment.Parts) { p.Lists[2] = p.Lists[2][:9] }, func(p *segment.Parts) { p.Lists[1][0].Doc++ },
		func(p *segment.Parts) { p.Lists[2][5].Places[1]++ }, func(p *segment.Parts) { p.Lists[2][9].Places = []int{2} }, func(p *segment.Parts) { p.Lists[3][0].Places = append(p.Lists[3][0].Places, most) },
	} {
		p := clone(good())
		change(&p)
		o := made(t, p)
		if segment.Same(s, o) || segment.Same(o, s) {
			t.Errorf("the change %d is not seen", i)
		}
	}
	if !segment.Same(s, made(t, clone(good()))) {
		t.Error("no change is seen as one")
	}
}

// P10.3: a segment of a segment's parts is the same.
func TestOfItsParts(t *testing.T) {
	var l []*segment.Segment
	for _, p := range all() {
		l = append(l, made(t, p))
	}
	for _, entries := range rows() {
		l = append(l, built(t, entries))
	}
	for _, s := range l {
		o := made(t, s.Parts())
		if o == s || !segment.Same(s, o) || !segment.Same(o, s) || o.Bytes() != s.Bytes() {
			t.Fatalf("%v has become %v", s.Parts(), o.Parts())
		}
		check(t, o, s.Parts())
	}
}

// spoil changes a list, and what may stand behind it.
func spoil[V any](l []V, by V) {
	for i := range l {
		l[i] = by
	}
	_ = append(l, by, by)
	_ = append(l[:0], by)
}

// spoilPostings changes each depth of a list.
func spoilPostings(l []api.Posting) {
	for _, p := range l {
		spoil(p.Places, -7)
	}
	spoil(l, one(-7))
}

func spoilParts(p segment.Parts) {
	for _, l := range p.Lists {
		spoilPostings(l)
	}
	spoil(p.Ids, -7)
	spoil(p.Seqs, -7)
	spoil(p.Keys, "spoilt")
	spoil(p.Lists, []api.Posting{one(-7)})
}

// R4: parts that are handed in are not changed, their spare room neither, and not kept.
func TestPartsHandedIn(t *testing.T) {
	for _, p := range all() {
		own := clone(p)
		if !segment.May(own) || !sameParts(own, p) || !spare(own) {
			t.Fatalf("May: %v has become %v", p, own)
		}
		s := made(t, own)
		if !sameParts(own, p) || !spare(own) {
			t.Fatalf("Make: %v has become %v", p, own)
		}
		check(t, s, p)
		if !sameParts(own, p) || !spare(own) {
			t.Fatalf("what a segment tells has made %v of %v", own, p)
		}
		spoilParts(own)
		check(t, s, p)
	}
}

// R4: entries that are handed in are not changed, their spare room neither, and not kept.
func TestEntriesHandedIn(t *testing.T) {
	for _, l := range rows() {
		own := roomy(l, of(-5, "spare", "room"))
		for i, e := range own {
			own[i].Doc.Fields = roomy(e.Doc.Fields, api.Field{Name: "spare"})
		}
		s := built(t, own)
		for i, e := range own {
			f := e.Doc.Fields
			if e.Doc.Id != l[i].Doc.Id || e.Seq != l[i].Seq || !slices.Equal(f, l[i].Doc.Fields) || f[:len(f)+1][len(f)].Name != "spare" {
				t.Fatalf("%v has become %v", l[i], e)
			}
		}
		if own[:len(l)+2][len(l)].Seq != -5 || own[:len(l)+2][len(l)+1].Seq != -5 {
			t.Fatal("the room behind the entries is changed")
		}
		for _, e := range own {
			spoil(e.Doc.Fields, api.Field{Name: "spoilt", Text: "spoilt"})
		}
		spoil(own, of(-7, "spoilt", "spoilt"))
		check(t, s, parts(l))
	}
}

// R4: what is answered is new memory at every depth; what was told stays.
func TestAnswersAreNew(t *testing.T) {
	for _, p := range all() {
		s := made(t, p)
		told, keys := s.Parts(), s.Keys()
		spoilParts(s.Parts())
		spoil(s.Keys(), "spoilt")
		for _, key := range p.Keys {
			spoilPostings(s.Postings(key))
			if x, ok := term(key); ok {
				c := s.Cursor(x)
				for c.Next() != cursor.End {
					spoil(c.Places(), -7)
				}
			}
		}
		check(t, s, p)
		if !sameParts(told, p) || !slices.Equal(keys, p.Keys) {
			t.Fatalf("what was told, %v, has become %v", p, told)
		}
		spoilParts(made(t, s.Parts()).Parts())
		check(t, s, p)
	}
}

// R4: no two lists of one answer share memory.
func TestListsAreApart(t *testing.T) {
	for _, p := range all() {
		got := made(t, p).Parts()
		spoil(got.Ids, -7)
		if !slices.Equal(got.Seqs, p.Seqs) {
			t.Fatal("Ids and Seqs are one list")
		}
		for i := range got.Lists {
			for k := range got.Lists[i] {
				spoil(got.Lists[i][k].Places, -7)
				if !samePostings(got.Lists[i][k+1:], p.Lists[i][k+1:]) {
					t.Fatalf("%q: the places of two documents are one list", p.Keys[i])
				}
			}
			spoil(got.Lists[i], one(-7))
			if !slices.EqualFunc(got.Lists[i+1:], p.Lists[i+1:], samePostings) {
				t.Fatalf("%q: two lists are one", p.Keys[i])
			}
		}
	}
}

// R5: what is told once is told each time, and by another segment of the same parts; no question changes a segment.
func TestAsBefore(t *testing.T) {
	for _, l := range rows() {
		a, b := built(t, l), built(t, l)
		for range 3 {
			check(t, a, parts(l))
			if !segment.Same(a, b) {
				t.Fatalf("%v and %v", a.Parts(), b.Parts())
			}
		}
	}
}

// P10.1, P10.2: a great segment.
func TestGreat(t *testing.T) {
	const many = 30000
	p := segment.Parts{Ids: upto(many), Seqs: upto(many)}
	for i := range 200 {
		p.Keys = append(p.Keys, "t\x00"+strconv.Itoa(10000+i))
		l := whole(many)
		p.Lists = append(p.Lists, l[i*37:i*37+i*100+1])
	}
	s := made(t, p)
	if !sameParts(s.Parts(), p) || s.Len() != many || s.Above(17) != many-17 {
		t.Error(s.Len())
	}
	for i, key := range p.Keys {
		x, _ := term(key)
		if s.Count(x) != i*100+1 || s.Cursor(x).Next() != i*37 {
			t.Error(key, s.Count(x))
		}
	}
	p.Lists[100][5000].Doc = many
	refused(t, p)
}
