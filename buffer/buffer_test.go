package buffer_test

import (
	"math"
	"slices"
	"strconv"
	"strings"
	"testing"
	"unicode"

	"concordance/api"
	"concordance/buffer"
	"concordance/doc"
)

// chance tells numbers that seem to come by chance, the same ones each time.
func chance(seed uint64) func(n int) int {
	return func(n int) int {
		seed = seed*6364136223846793005 + 1442695040888963407
		return int(seed>>33) % n
	}
}

// of is an entry of a number, and of a document of these names and texts, by turns.
func of(seq int, l ...string) api.Entry {
	e := api.Entry{Doc: api.Doc{Id: 100 - seq}, Seq: seq}
	for i := 0; i < len(l); i += 2 {
		e.Doc.Fields = append(e.Doc.Fields, api.Field{Name: l[i], Text: l[i+1]})
	}
	return e
}

// many is so many words, each in its own signs.
func many(n int) string {
	s := ""
	for i := range n {
		s += strconv.Itoa(i) + "W "
	}
	return s
}

// entries are entries that may be added one behind the other: the edges, and some by chance.
func entries() []api.Entry {
	l := []api.Entry{
		of(0), {Doc: api.Doc{Fields: []api.Field{}}, Seq: 1}, of(2, "t", ""), of(3, "t", " .,\xff"), of(4, "t", "a b a"), of(7, "t", "x"),
		of(8, "ta", "b", "t", "B, a b! a b", "u", "a"), of(9, "t", "a a a a", "a", "t"), of(20, "tt", "a b", "t", "ta b", "tta", "", "z", "t"),
		of(21, "t", "It's 3PM, it's 3pm", "u", "Ä ä a\xffA \xc3"), of(22, "t", "ÿ 0 z ß 9 a 10 1"), of(23, "t", strings.Repeat("X", 30)+" "+strings.Repeat("ä", 15)),
		of(30, "t", many(500)), of(31, "t", strings.Repeat("a ", 250), "u", strings.Repeat("a b ", 125)), of(32, "abcdefghijkl", "b", "b", many(499)),
		of(33, "a", "a", "b", "a", "c", "a", "d", "a", "e", "a", "f", "a", "g", "a", "h", "a"),
		{Doc: api.Doc{Id: math.MinInt}, Seq: 40}, {Doc: api.Doc{Id: math.MaxInt}, Seq: 41}, {Doc: api.Doc{Id: math.MaxInt}, Seq: 42},
	}
	pick := chance(91)
	for seq := 50; len(l) < 120; seq += 1 + pick(3) {
		l = append(l, some(seq, pick))
	}
	return append(l, of(1<<40, "t", "far b"), of(math.MaxInt-1, "t", "a"), of(math.MaxInt, "t", "a b"))
}

// some is an entry by chance, of few words, so that they often stand twice.
func some(seq int, pick func(n int) int) api.Entry {
	parts := []string{"a", "b", "c", "A", "ab", "ba", "1", "ä", "Ä", " ", " ", ".", "\xff", "\x00", " a ", " b ", "a b"}
	names := []string{"t", "u", "ta", "a", "b"}
	e := api.Entry{Doc: api.Doc{Id: pick(9) - 4}, Seq: seq}
	for range pick(5) {
		k := pick(len(names))
		f := api.Field{Name: names[k]}
		names = slices.Delete(names, k, k+1)
		for range pick(20) {
			f.Text += parts[pick(len(parts))]
		}
		e.Doc.Fields = append(e.Doc.Fields, f)
	}
	return e
}

// cut is a text's words, told in another way; it holds for the texts of these tests.
func cut(s string) []string {
	return strings.FieldsFunc(strings.ToLower(s), func(r rune) bool {
		return r > 591 || !unicode.IsLetter(r) && !unicode.IsDigit(r)
	})
}

// want is what a buffer of some entries must tell.
type want struct {
	keys  []string
	lists [][]api.Posting
	words int
	last  int
}

// expect is what a buffer of these entries must tell, found word by word, and put in its row one by one.
func expect(l []api.Entry) want {
	w := want{last: -1}
	for place, e := range l {
		w.last = e.Seq
		for _, f := range e.Doc.Fields {
			for at, x := range cut(f.Text) {
				w.words++
				w.put(f.Name+"\x00"+x, place, at)
			}
		}
	}
	return w
}

func (w *want) put(key string, place, at int) {
	i := 0
	for i < len(w.keys) && w.keys[i] < key {
		i++
	}
	if i == len(w.keys) || w.keys[i] != key {
		w.keys = slices.Insert(w.keys, i, key)
		w.lists = slices.Insert(w.lists, i, nil)
	}
	l := w.lists[i]
	if len(l) == 0 || l[len(l)-1].Doc != place {
		l = append(l, api.Posting{Doc: place})
	}
	l[len(l)-1].Places = append(l[len(l)-1].Places, at)
	w.lists[i] = l
}

func sameEntries(a, b []api.Entry) bool {
	return slices.EqualFunc(a, b, func(a, b api.Entry) bool { return a.Seq == b.Seq && doc.Same(a.Doc, b.Doc) })
}

func samePostings(a, b []api.Posting) bool {
	return slices.EqualFunc(a, b, func(a, b api.Posting) bool { return a.Doc == b.Doc && slices.Equal(a.Places, b.Places) })
}

// clones are the same entries, in memory of their own.
func clones(l []api.Entry) []api.Entry {
	c := slices.Clone(l)
	for i := range c {
		c[i].Doc.Fields = slices.Clone(c[i].Doc.Fields)
	}
	return c
}

// others are keys that no buffer of these tests has.
func others() []string {
	return []string{"", "\x00", "a", "t", "ta", "t\x00", "\x00a", "T\x00a", "t\x00A", "t\x00a\x00", "t\x00a ", "t\x00 a", "t\x00a b", "t:a", "ta\x00", "t\x00\xff", "tu\x00a", "t\x00\x00a", "x\x00a"}
}

// check holds all that a buffer tells against its entries.
func check(t *testing.T, b *buffer.Buffer, l []api.Entry) {
	t.Helper()
	w := expect(l)
	if b.Len() != len(l) || b.Words() != w.words || b.Last() != w.last {
		t.Fatalf("Len %d, Words %d, Last %d; want %d, %d, %d", b.Len(), b.Words(), b.Last(), len(l), w.words, w.last)
	}
	if got := b.Entries(); !sameEntries(got, l) {
		t.Fatalf("%#v, want %#v", got, l)
	}
	if got := b.Keys(); !slices.Equal(got, w.keys) {
		t.Fatalf("%q, want %q", got, w.keys)
	}
	for i, key := range w.keys {
		if got := b.Postings(key); !samePostings(got, w.lists[i]) {
			t.Fatalf("%q: %v, want %v", key, got, w.lists[i])
		}
	}
	for _, key := range others() {
		if got := b.Postings(key); len(got) != 0 {
			t.Fatalf("%q: %v", key, got)
		}
	}
}

// filled is a buffer of these entries.
func filled(t *testing.T, l []api.Entry) *buffer.Buffer {
	t.Helper()
	b := buffer.New()
	for i, e := range l {
		if no := b.Add(e); no != api.OK {
			t.Fatalf("%d: %v", i, no)
		}
	}
	return b
}

// The document's example.
func TestExample(t *testing.T) {
	b := buffer.New()
	if e := b.Add(of(0, "t", "a b a")); e != api.OK {
		t.Error(e)
	}
	if p := b.Postings("t\x00a"); len(p) != 1 || p[0].Doc != 0 || !slices.Equal(p[0].Places, []int{0, 2}) {
		t.Error(p)
	}
}

// P9.1, New: nothing in it, and each has its own.
func TestNew(t *testing.T) {
	check(t, buffer.New(), nil)
	a, b := buffer.New(), buffer.New()
	if l := a.Seal(); len(l) != 0 {
		t.Error(l)
	}
	check(t, a, nil)
	one, two := of(5, "t", "a"), of(3, "t", "b b")
	if a.Add(one) != api.OK || b.Add(two) != api.OK {
		t.Error("one buffer's number hinders another one")
	}
	check(t, a, []api.Entry{one})
	check(t, b, []api.Entry{two})
	a.Seal()
	check(t, b, []api.Entry{two})
}

// P9.1, P9.2: all that a buffer tells, behind each of its entries.
func TestFilled(t *testing.T) {
	b, l := buffer.New(), entries()
	for i, e := range l {
		if no := b.Add(e); no != api.OK {
			t.Fatalf("%d: %v", i, no)
		}
		if i < 25 || i%16 == 0 || i == len(l)-1 {
			check(t, b, l[:i+1])
		}
	}
}

// P9.1, Add: each error, which of two comes first; what is refused changes nothing, not even how far numbers have risen.
func TestAddErrors(t *testing.T) {
	long, half := strings.Repeat("x", 31), strings.Repeat("a ", 250)
	nine := of(4, "a", "", "b", "", "c", "", "d", "", "e", "", "f", "", "g", "", "h", "", "i", "")
	b, in := buffer.New(), []api.Entry{}
	for i, c := range []struct {
		e    api.Entry
		want api.Errno
	}{
		{of(-1, "t", "a"), api.ErrState}, {of(math.MinInt), api.ErrState}, {of(-1), api.ErrState},
		{of(9, "", "a"), api.ErrName}, {of(-1, "T", "a"), api.ErrName}, {of(9, "abcdefghijklm", "a"), api.ErrName},
		{of(0, "t", "a b"), api.OK}, {of(0, "t", "a"), api.ErrState}, {of(-1, "t", "a"), api.ErrState}, {of(1, "t", "c"), api.OK},
		{of(0, "t", "a"), api.ErrState}, {of(1, "t", "a"), api.ErrState}, {of(3, "u", "a"), api.OK}, {of(2, "u", "a"), api.ErrState}, {of(3), api.ErrState},
		{nine, api.ErrMany}, {of(9, "t", "a", "t", "b"), api.ErrTwice}, {of(9, "t", "a", "u", "b "+long), api.ErrLong},
		{of(9, "t", half+half+"a"), api.ErrMany}, {of(9, "t", half, "u", half, "v", "a"), api.ErrMany},
		{of(3, "t", "a", "t", "b"), api.ErrTwice}, {of(-5, "t", long), api.ErrLong}, {of(2, "t", half, "u", half+"a"), api.ErrMany}, {api.Entry{Doc: nine.Doc, Seq: -1}, api.ErrMany},
		{api.Entry{Doc: of(0, "t", "new").Doc, Seq: math.MaxInt - 1}, api.OK}, {of(9, "t", "a"), api.ErrState}, {of(math.MaxInt, "t", half, "u", half), api.OK},
		{of(math.MaxInt, "t", "a"), api.ErrState}, {of(math.MinInt, "t", "a"), api.ErrState}, {of(0), api.ErrState}, {of(math.MaxInt, "", ""), api.ErrName},
	} {
		if e := b.Add(c.e); e != c.want {
			t.Fatalf("%d: %v, want %v", i, e, c.want)
		}
		if c.want == api.OK {
			in = append(in, c.e)
		}
		check(t, b, in)
	}
}

// P9.1, Seal: all is told, then there is none; numbers rise on, places begin anew.
func TestSeal(t *testing.T) {
	b, l := buffer.New(), entries()
	for from := 0; from < len(l); {
		to := min(len(l), from+1+from%7)
		for _, e := range l[from:to] {
			if no := b.Add(e); no != api.OK {
				t.Fatal(no)
			}
		}
		check(t, b, l[from:to])
		if got := b.Seal(); !sameEntries(got, l[from:to]) {
			t.Fatalf("%#v, want %#v", got, l[from:to])
		}
		check(t, b, nil)
		for _, seq := range []int{l[to-1].Seq, l[to-1].Seq - 1, l[from].Seq, 0, -1, math.MinInt} {
			if e := b.Add(of(seq, "t", "a")); e != api.ErrState {
				t.Fatalf("%d behind a seal of %d: %v", seq, l[to-1].Seq, e)
			}
		}
		check(t, b, nil)
		if got := b.Seal(); len(got) != 0 {
			t.Fatal(got)
		}
		from = to
	}
	if e := b.Add(of(math.MaxInt, "t", "a")); e != api.ErrState {
		t.Error(e)
	}
}

// P9.1, P9.2: adds, often refused, and seals by chance.
func TestByChance(t *testing.T) {
	pick := chance(92)
	seen := map[api.Errno]int{}
	for range 60 {
		b, in, last := buffer.New(), []api.Entry{}, -1
		for range 30 {
			if pick(9) == 0 {
				if l := b.Seal(); !sameEntries(l, in) {
					t.Fatalf("%#v, want %#v", l, in)
				}
				in = nil
			}
			e := some(last-2+pick(8), pick)
			if pick(8) == 0 {
				e.Doc.Fields = append(e.Doc.Fields, api.Field{Name: "U", Text: "a"})
			}
			must := doc.May(e.Doc)
			if must == api.OK && (e.Seq < 0 || e.Seq <= last) {
				must = api.ErrState
			}
			if no := b.Add(e); no != must {
				t.Fatalf("%#v behind %d: %v, want %v", e, last, no, must)
			}
			if must == api.OK {
				in, last = append(in, e), e.Seq
			}
			seen[must]++
			check(t, b, in)
		}
	}
	for _, e := range []api.Errno{api.OK, api.ErrState, api.ErrName} {
		if seen[e] < 100 {
			t.Errorf("%v came %d times", e, seen[e])
		}
	}
}

// P9.2, Keys: they rise byte by byte, each once, a field's name ahead of those that begin with it; those of other documents' words too.
func TestKeys(t *testing.T) {
	b := filled(t, []api.Entry{of(1, "ta", "0 b", "t", "z 10 9 ä a ab"), of(2, "b", "t t", "t", "A ÿ"), of(3, "t", "a", "ta", "a")})
	want := []string{"b\x00t", "t\x0010", "t\x009", "t\x00a", "t\x00ab", "t\x00z", "t\x00ä", "t\x00ÿ", "ta\x000", "ta\x00a", "ta\x00b"}
	if l := b.Keys(); !slices.Equal(l, want) {
		t.Errorf("%q", l)
	}
}

// P9.2, Postings: documents without the term are left out, one that stands twice is told twice, places are those of the buffer and not Seq or Id.
func TestPostings(t *testing.T) {
	b := filled(t, []api.Entry{of(5, "t", "b"), of(6, "t", "b a", "u", "a"), of(7, "u", "a a"), of(90, "t", "b a", "u", "a"), of(91), of(99, "u", "", "t", "c A b c a")})
	for _, c := range []struct {
		key  string
		want []api.Posting
	}{
		{"t\x00a", []api.Posting{{Doc: 1, Places: []int{1}}, {Doc: 3, Places: []int{1}}, {Doc: 5, Places: []int{1, 4}}}},
		{"t\x00b", []api.Posting{{Doc: 0, Places: []int{0}}, {Doc: 1, Places: []int{0}}, {Doc: 3, Places: []int{0}}, {Doc: 5, Places: []int{2}}}},
		{"t\x00c", []api.Posting{{Doc: 5, Places: []int{0, 3}}}},
		{"u\x00a", []api.Posting{{Doc: 1, Places: []int{0}}, {Doc: 2, Places: []int{0, 1}}, {Doc: 3, Places: []int{0}}}},
		{"u\x00b", nil}, {"u\x00c", nil}, {"t", nil}, {"", nil},
	} {
		if l := b.Postings(c.key); !samePostings(l, c.want) {
			t.Errorf("%q: %v, want %v", c.key, l, c.want)
		}
	}
}

// P9.3: of all keys' postings all texts come again, word by word, each once.
func TestPostingsTellAll(t *testing.T) {
	l := entries()
	b := filled(t, l)
	type spot struct {
		field   string
		doc, at int
	}
	stand, told := map[spot]string{}, 0
	for _, key := range b.Keys() {
		field, w, _ := strings.Cut(key, "\x00")
		for _, p := range b.Postings(key) {
			for _, at := range p.Places {
				stand[spot{field, p.Doc, at}] = w
				told++
			}
		}
	}
	words := 0
	for i, e := range l {
		for _, f := range e.Doc.Fields {
			for at, w := range cut(f.Text) {
				words++
				if got := stand[spot{f.Name, i, at}]; got != w {
					t.Fatalf("the document %d has %q in %s at %d, not %q", i, got, f.Name, at, w)
				}
			}
		}
	}
	if told != words || b.Words() != words {
		t.Errorf("%d words are told, Words is %d, there are %d", told, b.Words(), words)
	}
}

// spoil changes a list, and what may stand behind it.
func spoil[V any](l []V, by V) {
	for i := range l {
		l[i] = by
	}
	_ = append(l, by, by)
	_ = append(l[:0], by)
}

// spoilPostings changes postings at every depth.
func spoilPostings(l []api.Posting) {
	for _, p := range l {
		spoil(p.Places, -7)
	}
	spoil(l, api.Posting{Doc: -7})
}

// spoilEntries changes entries at every depth.
func spoilEntries(l []api.Entry) {
	for _, e := range l {
		spoil(e.Doc.Fields, api.Field{Name: "spoilt", Text: "spoilt"})
	}
	spoil(l, api.Entry{Seq: -7})
}

// R4: what is handed in is not changed, its spare room neither, and not kept.
func TestHandedIn(t *testing.T) {
	l := entries()
	b := buffer.New()
	for i, e := range l {
		room := append(slices.Clone(e.Doc.Fields), api.Field{Name: "spare", Text: "room"}, api.Field{Name: "spare"})
		was := slices.Clone(room)
		e.Doc.Fields = room[:len(e.Doc.Fields)]
		if no := b.Add(e); no != api.OK {
			t.Fatal(no)
		}
		if !slices.Equal(room, was) {
			t.Fatalf("%q has become %q", was, room)
		}
		spoil(room, api.Field{Name: "spoilt", Text: "spoilt"})
		if i == 20 {
			check(t, b, l[:i+1])
		}
	}
	check(t, b, l)
	if got := b.Seal(); !sameEntries(got, l) {
		t.Error("what was handed in is sealed")
	}
}

// R4: what is answered is new memory at every depth.
func TestAnswersAreNew(t *testing.T) {
	l := entries()
	b := filled(t, l)
	for range 2 {
		keys := b.Keys()
		for _, key := range keys {
			spoilPostings(b.Postings(key))
		}
		spoil(keys, "spoilt")
		spoilEntries(b.Entries())
		check(t, b, l)
	}
}

// R4: no two lists of one answer share memory.
func TestListsAreApart(t *testing.T) {
	l := entries()
	b := filled(t, l)
	w := expect(l)
	for i, key := range w.keys {
		p := b.Postings(key)
		for k := range p {
			spoil(p[k].Places, -7)
			if !samePostings(p[k+1:], w.lists[i][k+1:]) {
				t.Fatalf("%q: the places of two documents are one list", key)
			}
		}
	}
	for _, got := range [][]api.Entry{b.Entries(), b.Seal()} {
		for k := range got {
			spoil(got[k].Doc.Fields, api.Field{Name: "spoilt"})
			if !sameEntries(got[k+1:], l[k+1:]) {
				t.Fatal("the fields of two entries are one list")
			}
		}
	}
}

// R4: what was told stays when the buffer is sealed and filled anew; what was sealed is the buffer's no more.
func TestToldStays(t *testing.T) {
	l := entries()
	half := len(l) / 2
	b := filled(t, l[:half])
	w := expect(l[:half])
	all, keys := b.Entries(), b.Keys()
	var lists [][]api.Posting
	for _, key := range keys {
		lists = append(lists, b.Postings(key))
	}
	sealed := b.Seal()
	for _, e := range l[half:] {
		if no := b.Add(e); no != api.OK {
			t.Fatal(no)
		}
	}
	if !sameEntries(all, l[:half]) || !sameEntries(sealed, l[:half]) || !slices.Equal(keys, w.keys) || !slices.EqualFunc(lists, w.lists, samePostings) {
		t.Error("what was told has changed")
	}
	spoilEntries(sealed)
	spoilEntries(all)
	check(t, b, l[half:])
	if got := b.Seal(); !sameEntries(got, l[half:]) {
		t.Errorf("%#v", got)
	}
}

// R5: what is told once is told each time, and by another buffer of the same entries; no question changes a buffer.
func TestAsBefore(t *testing.T) {
	l := clones(entries())
	a, b := filled(t, l), filled(t, entries())
	for range 5 {
		if !slices.Equal(a.Keys(), b.Keys()) || !sameEntries(a.Entries(), b.Entries()) {
			t.Fatal("two buffers of the same entries tell other things")
		}
		for _, key := range append(a.Keys(), others()...) {
			if !samePostings(a.Postings(key), b.Postings(key)) {
				t.Fatalf("%q", key)
			}
		}
	}
	check(t, a, l)
}
