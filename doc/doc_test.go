package doc_test

import (
	"math"
	"slices"
	"strconv"
	"strings"
	"testing"
	"unicode"

	"concordance/api"
	"concordance/doc"
	"concordance/word"
)

// chance tells numbers that seem to come by chance, the same ones each time.
func chance(seed uint64) func(n int) int {
	return func(n int) int {
		seed = seed*6364136223846793005 + 1442695040888963407
		return int(seed>>33) % n
	}
}

// of is a document of these names and texts, by turns.
func of(l ...string) api.Doc {
	d := api.Doc{Id: 7}
	for i := 0; i < len(l); i += 2 {
		d.Fields = append(d.Fields, api.Field{Name: l[i], Text: l[i+1]})
	}
	return d
}

// many is so many words, each in its own signs.
func many(n int) string {
	s := ""
	for i := range n {
		s += strconv.Itoa(i) + "W "
	}
	return s
}

// names are fields' names that may be.
func names() []string {
	return []string{"t", "a", "u", "title", "ta", "ab", "abcdefghijkl", "zzzzzzzzzzzz"}
}

// docs are documents that may be: none, few, the edges, and some by chance.
func docs() []api.Doc {
	l := []api.Doc{
		{}, {Id: 1, Fields: []api.Field{}}, of("t", ""), of("t", " .,\xff"), of("t", "b a b"), of("t", "x"), of("u", "B, a b! a b", "t", "a", "v", ""),
		of("t", "a a a a"), of("t", "a", "ta", "a", "a", "ta", "b", "t"), of("tt", "a b", "t", "ta b", "tta", "", "z", "t"), of("t", "ab", "a", "b", "b", "a"),
		of("t", "It's 3PM, it's 3pm", "u", "Ä ä a\xffA \xc3"), of("t", "ÿ 0 z ß 9 a 10 1"), of("t", strings.Repeat("X", 30)+" "+strings.Repeat("ä", 15)),
		of("t", many(500)), of("t", strings.Repeat("a ", 500)), of("t", strings.Repeat("a ", 250), "u", strings.Repeat("a b ", 125)), of("a", "b", "b", many(499)),
		{Id: math.MinInt, Fields: []api.Field{{Name: "t", Text: "min"}}}, {Id: math.MaxInt, Fields: []api.Field{{Name: "t", Text: "max"}}},
	}
	full := api.Doc{Id: -1}
	for _, name := range names() {
		full.Fields = append(full.Fields, api.Field{Name: name, Text: "a b " + name})
	}
	l = append(l, full)
	pick := chance(81)
	for id := range 150 {
		l = append(l, some(id, pick))
	}
	return l
}

// some is a document by chance, of few words, so that they often stand twice.
func some(id int, pick func(n int) int) api.Doc {
	parts := []string{"a", "b", "c", "A", "B", "ab", "ba", "1", "ä", "Ä", " ", " ", " ", ".", "-", "\xff", "\x00", " a ", " b ", "a b"}
	d := api.Doc{Id: id}
	left := names()
	for range pick(6) {
		k := pick(len(left))
		f := api.Field{Name: left[k]}
		left = slices.Delete(left, k, k+1)
		for range pick(25) {
			f.Text += parts[pick(len(parts))]
		}
		d.Fields = append(d.Fields, f)
	}
	return d
}

// cut is a text's words, told in another way; it holds for the texts of these tests.
func cut(s string) []string {
	return strings.FieldsFunc(strings.ToLower(s), func(r rune) bool {
		return r > 591 || !unicode.IsLetter(r) && !unicode.IsDigit(r)
	})
}

// words are the words of the field of a name.
func words(d api.Doc, name string) []string {
	for _, f := range d.Fields {
		if f.Name == name {
			return cut(f.Text)
		}
	}
	return nil
}

// side is at which places words stand side by side in others, found one by one.
func side(l, words []string) []int {
	var at []int
	for i := range l {
		if len(words) > 0 && i+len(words) <= len(l) && slices.Equal(l[i:i+len(words)], words) {
			at = append(at, i)
		}
	}
	return at
}

// terms are all terms of a document, found one by one, and put in their row one by one.
func terms(d api.Doc) []api.Term {
	var l []api.Term
	for _, f := range d.Fields {
		for _, w := range cut(f.Text) {
			t := api.Term{Field: f.Name, Word: w}
			i := 0
			for i < len(l) && l[i].Field+"\x00"+l[i].Word < f.Name+"\x00"+w {
				i++
			}
			if i == len(l) || l[i] != t {
				l = slices.Insert(l, i, t)
			}
		}
	}
	return l
}

// asked are terms that a document is asked for: its own, its words in other fields, and others.
func asked(d api.Doc) []api.Term {
	l := terms(d)
	if len(l) > 12 {
		l = append(l[:6:6], l[len(l)-6:]...)
	}
	l = append(l, api.Term{}, api.Term{Field: "t"}, api.Term{Word: "a"}, api.Term{Field: "T", Word: "a"}, api.Term{Field: "x", Word: "a"}, api.Term{Field: "t\x00", Word: "a"})
	for _, t := range slices.Clone(l) {
		for _, name := range append(names(), "", "tt", t.Field+"a", t.Word) {
			l = append(l, api.Term{Field: name, Word: t.Word})
		}
		for _, w := range []string{"", t.Word + "a", strings.ToUpper(t.Word), t.Word + " ", t.Word + " " + t.Word, "\x00" + t.Word, "b", "a b", "\xff", t.Field} {
			l = append(l, api.Term{Field: t.Field, Word: w})
		}
	}
	return l
}

// The document's examples.
func TestExample(t *testing.T) {
	d := of("t", "b a b")
	l, at := doc.Invert(d)
	if !slices.Equal(l, []api.Term{{Field: "t", Word: "a"}, {Field: "t", Word: "b"}}) || len(at) != 2 || !slices.Equal(at[0], []int{1}) || !slices.Equal(at[1], []int{0, 2}) {
		t.Error(l, at)
	}
	if n := doc.Phrase(d, "t", []string{"b", "a"}); n != 1 {
		t.Error(n)
	}
}

// P8.1, Name: lengths, each byte at each place, and texts that are no such bytes.
func TestName(t *testing.T) {
	for n := range 40 {
		for _, by := range []string{"a", "m", "z"} {
			if doc.Name(strings.Repeat(by, n)) != (n >= 1 && n <= 12) {
				t.Errorf("%d times %s", n, by)
			}
		}
	}
	for c := range 256 {
		for n := 1; n <= 12; n++ {
			for at := range n {
				b := []byte(strings.Repeat("k", n))
				b[at] = byte(c)
				if doc.Name(string(b)) != (c >= 'a' && c <= 'z') {
					t.Fatalf("%q", b)
				}
			}
		}
	}
	for _, s := range []string{"", " ", "T", "Title", "a b", "a_b", "a1", "ä", "aä", "ſ", "a\x00", "\x00a", "a\xff", "ａ", "a\n", strings.Repeat("a", 5000)} {
		if doc.Name(s) {
			t.Errorf("%q", s)
		}
	}
	for _, s := range names() {
		if !doc.Name(s) {
			t.Errorf("%q", s)
		}
	}
}

// P8.1, May: what may be.
func TestMay(t *testing.T) {
	for _, d := range docs() {
		if e := doc.May(d); e != api.OK {
			t.Errorf("%#v: %v", d, e)
		}
	}
}

// P8.1, May: each error, and which of two comes first.
func TestMayErrors(t *testing.T) {
	long := strings.Repeat("x", 31)
	half := strings.Repeat("a ", 250)
	for i, c := range []struct {
		d    api.Doc
		want api.Errno
	}{
		{of("a", "", "b", "", "c", "", "d", "", "e", "", "f", "", "g", "", "h", ""), api.OK},
		{of("a", "", "b", "", "c", "", "d", "", "e", "", "f", "", "g", "", "h", "", "i", ""), api.ErrMany},
		{of("", "", "b", "", "b", long, "d", "", "e", "", "f", "", "g", "", "h", "", "i", ""), api.ErrMany},
		{api.Doc{Fields: make([]api.Field, 8)}, api.ErrName},
		{api.Doc{Fields: make([]api.Field, 9)}, api.ErrMany},
		{api.Doc{Fields: make([]api.Field, 5000)}, api.ErrMany},
		{of("", "a"), api.ErrName},
		{of("T", "a"), api.ErrName},
		{of("t1", "a"), api.ErrName},
		{of("t\x00", "a"), api.ErrName},
		{of("abcdefghijkl", "a"), api.OK},
		{of("abcdefghijklm", "a"), api.ErrName},
		{of("t", "a", "", "a"), api.ErrName},
		{of("t", "a", "T", "a"), api.ErrName},
		{of("t", "a", "t", "b"), api.ErrTwice},
		{of("t", "", "u", "", "t", ""), api.ErrTwice},
		{of("t", "", "u", "", "u", ""), api.ErrTwice},
		{of("a", "", "b", "", "c", "", "d", "", "e", "", "f", "", "g", "", "a", ""), api.ErrTwice},
		{of("t", "", "tt", "", "ttt", ""), api.OK},
		{of("", "", "", ""), api.ErrName},
		{of("T", "", "T", ""), api.ErrName},
		{of("t", "", "T", "", "t", ""), api.ErrName},
		{of("t", "", "t", "", "T", ""), api.ErrTwice},
		{of("t", strings.Repeat("x", 30)), api.OK},
		{of("t", long), api.ErrLong},
		{of("t", strings.Repeat("ä", 15)+"x"), api.ErrLong},
		{of("t", "a", "u", "a "+long), api.ErrLong},
		{of("T", long), api.ErrName},
		{of("t", "a", "t", long), api.ErrTwice},
		{of("t", "a", "t", half+half+"a"), api.ErrTwice},
		{of("t", long, "T", ""), api.ErrLong},
		{of("t", long, "t", ""), api.ErrLong},
		{of("t", half+half), api.OK},
		{of("t", half+half+"a"), api.ErrMany},
		{of("t", half+half+"a", "T", ""), api.ErrMany},
		{of("t", half+half+"a", "u", long), api.ErrMany},
		{of("t", half+half+long), api.ErrLong},
		{of("t", half+half+"a "+long), api.ErrMany},
		{of("t", half, "u", half), api.OK},
		{of("t", half, "u", half, "v", " ."), api.OK},
		{of("t", half, "u", half+"a"), api.ErrMany},
		{of("t", half, "u", half, "v", "a"), api.ErrMany},
		{of("t", half+"a", "u", half, "V", ""), api.ErrName},
		{of("t", half+"a", "u", half, "t", ""), api.ErrTwice},
		{of("t", half+"a", "u", half, "v", long), api.ErrLong},
		{of("t", half+half, "u", half+half, "v", half+half), api.ErrMany},
		{of("a", half, "b", "", "c", "", "d", "", "e", "", "f", "", "g", half, "h", "a"), api.ErrMany},
	} {
		for _, c.d.Id = range []int{0, 5, -5, math.MinInt, math.MaxInt} {
			if e := doc.May(c.d); e != c.want {
				t.Errorf("%d: %v, want %v", i, e, c.want)
			}
		}
	}
}

// first is the first error of fields, gone through one by one.
func first(l []api.Field) api.Errno {
	if len(l) > 8 {
		return api.ErrMany
	}
	all := ""
	for i, f := range l {
		bad := f.Name == "" || len(f.Name) > 12 || strings.Trim(f.Name, "abcdefghijklmnopqrstuvwxyz") != ""
		if bad {
			return api.ErrName
		}
		for _, a := range l[:i] {
			if a.Name == f.Name {
				return api.ErrTwice
			}
		}
		if _, e := word.Tokens(f.Text); e != api.OK {
			return e
		}
		all += f.Text + " "
	}
	if len(word.Words(all)) > 500 {
		return api.ErrMany
	}
	return api.OK
}

// P8.1, May: fields by chance, often wrong ones.
func TestMayByChance(t *testing.T) {
	pick := chance(82)
	some := append(append(append(names(), names()...), names()...), "", "T", "abcdefghijklm", "t1", "tä")
	texts := []string{"", "a", "a b", many(200), many(300), many(100), many(450), many(50), strings.Repeat("x", 30), strings.Repeat("x", 31), many(501)}
	seen := map[api.Errno]int{}
	for range 4000 {
		d := api.Doc{}
		for range pick(10) {
			d.Fields = append(d.Fields, api.Field{Name: some[pick(len(some))], Text: texts[pick(len(texts))]})
		}
		want := first(d.Fields)
		if e := doc.May(d); e != want {
			t.Fatalf("%#v: %v, want %v", d, e, want)
		}
		seen[want]++
	}
	for _, e := range []api.Errno{api.OK, api.ErrMany, api.ErrName, api.ErrTwice, api.ErrLong} {
		if seen[e] < 20 {
			t.Errorf("%v came %d times", e, seen[e])
		}
	}
}

// P8.2, Invert: each term once, as the keys rise, with all its places.
func TestInvert(t *testing.T) {
	for _, d := range docs() {
		want := terms(d)
		l, at := doc.Invert(d)
		if !slices.Equal(l, want) || len(at) != len(l) {
			t.Fatalf("%#v: %q, %v", d, l, at)
		}
		for i, k := range l {
			if !slices.Equal(at[i], side(words(d, k.Field), []string{k.Word})) {
				t.Fatalf("%#v: %q at %v", d, k, at[i])
			}
			if i > 0 && !word.Less(l[i-1], k) {
				t.Fatalf("%#v: %q ahead of %q", d, l[i-1], k)
			}
		}
	}
}

// P8.2, Invert: a field's name that another one begins with comes ahead, whatever the words; fields' row does not count.
func TestInvertRow(t *testing.T) {
	l, at := doc.Invert(of("ta", "0 b", "t", "z 10 9 ä a ab", "b", "t t"))
	var got []string
	for i, k := range l {
		got = append(got, k.Field+":"+k.Word+strconv.Itoa(len(at[i])))
	}
	if s := strings.Join(got, " "); s != "b:t2 t:101 t:91 t:a1 t:ab1 t:z1 t:ä1 ta:01 ta:b1" {
		t.Error(s)
	}
	if l, at := doc.Invert(api.Doc{Id: 3}); len(l) != 0 || len(at) != 0 {
		t.Error(l, at)
	}
}

// P8.2, Has and Count: terms of a document, and others.
func TestCount(t *testing.T) {
	for _, d := range docs() {
		for _, k := range asked(d) {
			want := len(side(words(d, k.Field), []string{k.Word}))
			if n := doc.Count(d, k); n != want {
				t.Fatalf("%#v: %q counts %d, want %d", d, k, n, want)
			}
			if doc.Has(d, k) != (want > 0) {
				t.Fatalf("%#v: has %q: %v", d, k, want == 0)
			}
		}
	}
}

// phrases are words that stand in a field, some that do so but for one of them, and others.
func phrases(l []string, pick func(n int) int) [][]string {
	own := [][]string{nil, {}, {""}, {"a"}, {"a", "a"}, {"a", "b"}, {"b", "a", "b"}, {"a b"}, {"a", ""}, {"", "a"}, {"A"}, {"a", "B"}, slices.Repeat([]string{"a"}, 600), l, append(slices.Clone(l), "a"), append([]string{"a"}, l...)}
	for range 25 {
		if len(l) == 0 {
			break
		}
		from := pick(len(l))
		words := slices.Clone(l[from:min(len(l), from+1+pick(7))])
		own = append(own, words)
		for _, by := range []string{"a", "b", "", l[0], l[len(l)-1]} {
			other := slices.Clone(words)
			other[pick(len(other))] = by
			own = append(own, other, append(slices.Clone(words), by))
		}
		turned := slices.Clone(words)
		slices.Reverse(turned)
		own = append(own, turned)
	}
	return own
}

// P8.2, Phrase: words that stand in a field, and others.
func TestPhrase(t *testing.T) {
	pick := chance(83)
	for _, d := range docs() {
		for _, name := range append(names(), "", "T", "x", "tt", "v") {
			l := words(d, name)
			for _, ask := range phrases(l, pick) {
				want := len(side(l, ask))
				if n := doc.Phrase(d, name, ask); n != want {
					t.Fatalf("%#v: %q in %q: %d, want %d", d, ask, name, n, want)
				}
			}
		}
	}
}

// P8.2, Phrase: told one by one.
func TestPhraseEdges(t *testing.T) {
	d := of("t", "a a a b a. A", "u", "b", "v", "a", "w", "")
	for i, c := range []struct {
		field string
		words []string
		want  int
	}{
		{"t", nil, 0}, {"t", []string{}, 0}, {"x", nil, 0}, {"w", nil, 0}, {"w", []string{""}, 0}, {"", []string{"a"}, 0},
		{"t", []string{"a"}, 5}, {"t", []string{"a", "a"}, 3}, {"t", []string{"a", "a", "a"}, 1}, {"t", []string{"a", "a", "a", "a"}, 0},
		{"t", []string{"a", "b"}, 1}, {"t", []string{"b", "a"}, 1}, {"t", []string{"b", "a", "a"}, 1}, {"t", []string{"b", "a", "a", "a"}, 0}, {"t", []string{"a", "a", "a", "b", "a", "a"}, 1},
		{"t", []string{"a", "a", "a", "b", "a", "a", "a"}, 0}, {"t", []string{"b", "b"}, 0}, {"t", []string{"A"}, 0}, {"t", []string{"a b"}, 0}, {"t", []string{"a", "", "a"}, 0},
		{"u", []string{"b"}, 1}, {"u", []string{"b", "a"}, 0}, {"v", []string{"a", "a"}, 0}, {"x", []string{"a"}, 0}, {"T", []string{"a"}, 0}, {"tt", []string{"a"}, 0},
	} {
		if n := doc.Phrase(d, c.field, c.words); n != c.want {
			t.Errorf("%d: %d, want %d", i, n, c.want)
		}
	}
}

// P8.2, Weight.
func TestWeight(t *testing.T) {
	for _, d := range docs() {
		want := 0
		for _, f := range d.Fields {
			want += len(cut(f.Text))
		}
		if n := doc.Weight(d); n != want {
			t.Errorf("%#v: %d, want %d", d, n, want)
		}
		in := 0
		l, at := doc.Invert(d)
		for i := range l {
			in += len(at[i])
		}
		if in != want {
			t.Errorf("%#v: %d places, want %d", d, in, want)
		}
	}
	if n := doc.Weight(of("t", many(500))); n != 500 {
		t.Error(n)
	}
}

// P8.3: a phrase of one word is counted as its term.
func TestPhraseOfOne(t *testing.T) {
	for _, d := range docs() {
		for _, k := range asked(d) {
			if a, b := doc.Phrase(d, k.Field, []string{k.Word}), doc.Count(d, k); a != b {
				t.Fatalf("%#v: %q as a phrase %d, as a term %d", d, k, a, b)
			}
		}
	}
}

// P8.1, Same: documents are the same as themselves alone.
func TestSame(t *testing.T) {
	l := docs()
	for i, a := range l {
		for j, b := range l {
			want := a.Id == b.Id && len(a.Fields) == len(b.Fields)
			for k := 0; want && k < len(a.Fields); k++ {
				want = a.Fields[k].Name == b.Fields[k].Name && a.Fields[k].Text == b.Fields[k].Text
			}
			if i == j && !want || doc.Same(a, b) != want {
				t.Errorf("%#v and %#v: %v", a, b, !want)
			}
		}
	}
}

// P8.1, Same: what one difference makes.
func TestSameEdges(t *testing.T) {
	a := of("t", "a b", "u", "c")
	if !doc.Same(a, of("t", "a b", "u", "c")) || !doc.Same(api.Doc{}, api.Doc{Fields: []api.Field{}}) || !doc.Same(api.Doc{Fields: []api.Field{}}, api.Doc{}) || !doc.Same(of("T", "\xff", "T", ""), of("T", "\xff", "T", "")) {
		t.Error("two that are the same")
	}
	other := doc.Clone(a)
	other.Id++
	for _, b := range []api.Doc{other, {Id: 7}, {}, of("u", "c", "t", "a b"), of("t", "a b"), of("u", "c"), of("t", "a b", "u", "c", "v", ""), of("t", "a b", "u", "d"), of("t", "A b", "u", "c"), of("t", "a  b", "u", "c"), of("t", "a b", "v", "c"), of("t", "b a", "u", "c"), of("t", "a b", "u", "c\x00")} {
		if doc.Same(a, b) || doc.Same(b, a) {
			t.Errorf("%#v is the same as %#v", b, a)
		}
	}
}

// wrong are documents that may not be.
func wrong() []api.Doc {
	return []api.Doc{
		{Fields: make([]api.Field, 20)}, of("", "a b a"), of("T\x00", "a b", "T", "\x00a b"), of("t", "a b a", "t", "b a b"), of("t", strings.Repeat("x", 5000)+" a "+strings.Repeat("x", 31)), of("t", many(3000), "u", many(3000)),
	}
}

// P8.1, Clone: the same, in memory of its own, also of what may not be.
func TestClone(t *testing.T) {
	for _, d := range append(docs(), wrong()...) {
		was := slices.Clone(d.Fields)
		c := doc.Clone(d)
		if c.Id != d.Id || !slices.Equal(c.Fields, d.Fields) || !doc.Same(c, d) {
			t.Fatalf("%#v of %#v", c, d)
		}
		spoil(c.Fields, api.Field{Name: "spoilt"})
		if !slices.Equal(d.Fields, was) {
			t.Fatalf("%#v has become %#v", was, d.Fields)
		}
		c = doc.Clone(d)
		spoil(d.Fields, api.Field{Text: "spoilt"})
		if !slices.Equal(c.Fields, was) {
			t.Fatalf("%#v has become %#v", was, c.Fields)
		}
	}
}

// R1: of documents that may not be all calls end.
func TestWrongEnds(t *testing.T) {
	for _, d := range wrong() {
		l, at := doc.Invert(d)
		if len(l) != len(at) {
			t.Errorf("%d terms, %d lists", len(l), len(at))
		}
		if doc.May(d) == api.OK {
			t.Errorf("%#v may be", d)
		}
		for _, k := range []api.Term{{}, {Field: "t", Word: "a"}, {Field: "T\x00", Word: "b"}, {Field: "t", Word: strings.Repeat("x", 31)}, {Field: "u", Word: "0w"}} {
			doc.Has(d, k)
			doc.Count(d, k)
			doc.Phrase(d, k.Field, []string{k.Word, "a", k.Word})
		}
		doc.Weight(d)
	}
}

// spoil changes a list, and what may stand behind it.
func spoil[V any](l []V, by V) {
	for i := range l {
		l[i] = by
	}
	_ = append(l, by, by)
	_ = append(l[:0], by)
}

// R4: what is handed in is not changed, its spare room neither.
func TestHandedInStays(t *testing.T) {
	for _, d := range append(docs(), wrong()...) {
		room := append(slices.Clone(d.Fields), api.Field{Name: "spare", Text: "room"}, api.Field{Name: "spare"})
		was := slices.Clone(room)
		in := api.Doc{Id: d.Id, Fields: room[:len(d.Fields)]}
		ask := []string{"b", "a", "spare", "room"}
		doc.May(in)
		l, at := doc.Invert(in)
		spoil(l, api.Term{Field: "spoilt"})
		spoil(at, []int{-7})
		doc.Has(in, api.Term{Field: "t", Word: "a"})
		doc.Count(in, api.Term{Field: "t", Word: "a"})
		doc.Phrase(in, "t", ask[:2])
		doc.Weight(in)
		doc.Same(in, d)
		doc.Same(d, in)
		spoil(doc.Clone(in).Fields, api.Field{Name: "spoilt"})
		if !slices.Equal(room, was) || !slices.Equal(ask, []string{"b", "a", "spare", "room"}) {
			t.Fatalf("%q has become %q", was, room)
		}
	}
}

// R4: no list that Invert answers shares memory with another one.
func TestInvertIsNew(t *testing.T) {
	for _, d := range docs() {
		want := terms(d)
		_, kept := doc.Invert(d)
		l, at := doc.Invert(d)
		for i := range at {
			spoil(at[i], -7)
			for j := i + 1; j < len(at); j++ {
				if !slices.Equal(at[j], kept[j]) {
					t.Fatalf("%#v: the places of %q are those of %q", d, want[i], want[j])
				}
			}
		}
		spoil(l, api.Term{})
		for i, k := range want {
			if !slices.Equal(kept[i], side(words(d, k.Field), []string{k.Word})) {
				t.Fatalf("%#v: Invert tells one memory twice", d)
			}
		}
	}
}

// R5: what is told once is told each time.
func TestAsBefore(t *testing.T) {
	for _, d := range append(docs(), wrong()...) {
		l, at := doc.Invert(d)
		for range 5 {
			m, to := doc.Invert(d)
			if !slices.Equal(l, m) || !slices.EqualFunc(at, to, slices.Equal[[]int]) {
				t.Fatalf("%#v: another time %q, %v", d, m, to)
			}
		}
	}
}
