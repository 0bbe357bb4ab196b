package match_test

import (
	"fmt"
	"math"
	"slices"
	"strings"
	"testing"

	"concordance/api"
	"concordance/bits"
	"concordance/match"
	"concordance/query"
	"concordance/segment"
)

const last = 1<<31 - 1 // the greatest place

// chance tells numbers that seem to come by chance, the same ones each time.
func chance(seed uint64) func(n int) int {
	return func(n int) int {
		seed = seed*6364136223846793005 + 1442695040888963407
		return int(seed>>33) % n
	}
}

func term(field, w string) api.Query {
	return api.Query{Kind: api.IsTerm, Term: api.Term{Field: field, Word: w}}
}

func phrase(field string, words ...string) api.Query {
	return api.Query{Kind: api.IsPhrase, Term: api.Term{Field: field}, Words: words}
}

func of(kind int, kids ...api.Query) api.Query {
	return api.Query{Kind: kind, Kids: kids}
}

// parsed is the query of a text.
func parsed(t *testing.T, text string) api.Query {
	t.Helper()
	q, e := query.Parse(text)
	if e != api.OK {
		t.Fatalf("%q: %v", text, e)
	}
	return q
}

// told is a query's text, or the query itself, where it has none.
func told(q api.Query) string {
	if s, e := query.Print(q); e == api.OK {
		return fmt.Sprintf("%.300s", s)
	}
	return fmt.Sprintf("kind %d, term %q", q.Kind, q.Term)
}

// built is a segment of documents, each of a text in the field t and one in the field u, with a bar between.
func built(t *testing.T, texts ...string) (*segment.Segment, []api.Doc) {
	t.Helper()
	var l []api.Entry
	var docs []api.Doc
	for i, text := range texts {
		a, b, _ := strings.Cut(text, "|")
		d := api.Doc{Id: 1000 - i, Fields: []api.Field{{Name: "t", Text: a}, {Name: "u", Text: b}}}
		l, docs = append(l, api.Entry{Doc: d, Seq: 3*i + 5}), append(docs, d)
	}
	s, e := segment.Build(l)
	if e != api.OK {
		t.Fatal(e)
	}
	return s, docs
}

func made(t *testing.T, p segment.Parts) *segment.Segment {
	t.Helper()
	s, e := segment.Make(p)
	if e != api.OK {
		t.Fatalf("%v: %v", p, e)
	}
	return s
}

func one(doc int, places ...int) api.Posting {
	return api.Posting{Doc: doc, Places: places}
}

// rows are numbers from 0 on, so many.
func rows(many int) []int {
	var l []int
	for i := range many {
		l = append(l, i)
	}
	return l
}

// random is parts by chance: few words in two fields, whose places no text needs to have, also at the greatest ones.
func random(pick func(n int) int, many int) segment.Parts {
	p := segment.Parts{Ids: rows(many), Seqs: rows(many)}
	for _, key := range []string{"", "t", "t\x00", "t\x00a", "t\x00ab", "t\x00b", "t\x00c", "u\x00a", "u\x00b"} {
		var l []api.Posting
		often := 1 + pick(4)
		for doc := range many {
			from := []int{0, 0, 0, last - 7}[pick(4)]
			var places []int
			for at := range 8 {
				if pick(5) < often {
					places = append(places, from+at)
				}
			}
			if len(places) > 0 && pick(5) < often {
				l = append(l, one(doc, places...))
			}
		}
		if len(l) > 0 {
			p.Keys, p.Lists = append(p.Keys, key), append(p.Lists, l)
		}
	}
	return p
}

// some is a query that may be, by chance, of at most so many one in the other.
func some(pick func(n int) int, deep int) api.Query {
	kind := 1 + pick(5)
	if deep == 1 {
		kind = []int{api.IsTerm, api.IsPhrase}[pick(2)]
	}
	field := []string{"t", "t", "u", "v"}[pick(4)]
	one := func() string { return []string{"a", "b", "a", "b", "c", "ab", "x"}[pick(7)] }
	switch kind {
	case api.IsTerm:
		return term(field, one())
	case api.IsPhrase:
		q := phrase(field)
		for range 1 + min(pick(api.MaxPhrase), pick(api.MaxPhrase)) {
			q.Words = append(q.Words, one())
		}
		return q
	case api.IsNot:
		return of(kind, some(pick, deep-1))
	}
	q := of(kind)
	for range 1 + min(pick(api.MaxKids), pick(api.MaxKids)) {
		q.Kids = append(q.Kids, some(pick, 1+pick(deep-1)))
	}
	return q
}

// queries are ones that may be: all sorts of ones in short, and some by chance.
func queries(t *testing.T) []api.Query {
	t.Helper()
	var l []api.Query
	for _, text := range []string{
		"t:a", "t:b", "t:ab", "t:x", "u:a", "v:a", `t:"a"`, `u:"b"`, `t:"a b"`, `t:"b a"`, `t:"a a"`, `t:"a a a"`, `t:"a b a"`, `t:"a b a b"`, `t:"a x"`, `t:"x a"`, `t:"b b b b b b"`, `u:"a b"`, `v:"a b"`,
		"(and t:a)", "(or t:a)", "(not t:a)", "(not t:x)", "(and t:x)", "(or t:x)", "(and t:a t:b)", "(or t:a t:b)", "(and t:a u:a)", "(or t:a u:a)", "(and t:a t:a)", "(or t:a t:a t:a)", "(and t:a t:x)", "(and t:x t:a)", "(or t:a t:x)", "(or t:x t:a)", "(or t:x v:a)",
		"(not (not t:a))", "(not (not (not t:a)))", "(and t:a (not t:b))", "(and (not t:b) t:a)", "(or t:a (not t:a))", "(or (not t:a) t:a)", "(and t:a (not t:a))", "(and (not t:a) (not t:b))", "(or (not t:a) (not t:b))", "(not (and t:a t:b))", "(not (or t:a t:b))",
		`(and t:a t:b t:"a b")`, `(or t:"a b" t:"b a" u:"a b")`, `(and (or t:a u:a) (or t:b u:b) (not t:"a b"))`, "(and t:a t:b t:c u:a u:b t:ab t:a t:b)", "(or t:a t:b t:c u:a u:b t:ab t:x v:a)", "(not (not (not (not (not t:a)))))", "(and (or (and (or (not u:b)))))",
	} {
		l = append(l, parsed(t, text))
	}
	pick := chance(131)
	for range 300 {
		l = append(l, some(pick, 1+pick(6)))
	}
	return l
}

// stands is at which places a term stands in a document, by the parts.
func stands(p segment.Parts, t api.Term, doc int) []int {
	for i, key := range p.Keys {
		for _, x := range p.Lists[i] {
			if key == t.Field+"\x00"+t.Word && x.Doc == doc {
				return x.Places
			}
		}
	}
	return nil
}

// grade is whether a document fits, and how well, by the parts.
func grade(p segment.Parts, q api.Query, doc int) (bool, int) {
	if q.Kind == api.IsTerm {
		n := len(stands(p, q.Term, doc))
		return n > 0, n
	}
	if q.Kind == api.IsPhrase {
		var l [][]int
		for _, w := range q.Words {
			l = append(l, stands(p, api.Term{Field: q.Term.Field, Word: w}, doc))
		}
		n := beside(l)
		return n > 0, n
	}
	fit, all := 0, 0
	for _, kid := range q.Kids {
		ok, n := grade(p, kid, doc)
		if ok {
			fit, all = fit+1, all+n
		}
	}
	ok := map[int]bool{api.IsAnd: fit == len(q.Kids), api.IsOr: fit > 0, api.IsNot: fit == 0}[q.Kind]
	if !ok {
		all = 0
	}
	return ok, all
}

// beside is how many numbers stand side by side, found one by one.
func beside(l [][]int) int {
	if len(l) == 0 {
		return 0
	}
	n := 0
	for _, first := range l[0] {
		ok := true
		for k := range l {
			ok = ok && first <= math.MaxInt-k && slices.Contains(l[k], first+k)
		}
		if ok {
			n++
		}
	}
	return n
}

// fitting is what fits by the parts.
func fitting(p segment.Parts, q api.Query) []api.Found {
	var l []api.Found
	for doc := range p.Ids {
		if ok, n := grade(p, q, doc); ok {
			l = append(l, api.Found{Doc: doc, Score: n})
		}
	}
	return l
}

// fits holds Match's answer against what ought to fit.
func fits(t *testing.T, s *segment.Segment, q api.Query, want []api.Found) {
	t.Helper()
	if got := match.Match(s, q); !slices.Equal(got, want) {
		t.Fatalf("%s: %.600s, want %.600s", told(q), fmt.Sprint(got), fmt.Sprint(want))
	}
}

// The chapter's example.
func TestExample(t *testing.T) {
	if got := match.And([]api.Found{{Doc: 1, Score: 2}, {Doc: 3, Score: 1}}, []api.Found{{Doc: 3, Score: 4}}); !slices.Equal(got, []api.Found{{Doc: 3, Score: 5}}) {
		t.Error(got)
	}
}

// P13.1, Match: which documents fit, at their places, and how well.
func TestMatch(t *testing.T) {
	s, _ := built(t, "a b a|b", "b|a a", "", "It's A, b; a!|c", "a a a a|a b", "c ab")
	for text, want := range map[string][]api.Found{
		"t:a": {{Doc: 0, Score: 2}, {Doc: 3, Score: 2}, {Doc: 4, Score: 4}}, "t:b": {{Doc: 0, Score: 1}, {Doc: 1, Score: 1}, {Doc: 3, Score: 1}}, "u:a": {{Doc: 1, Score: 2}, {Doc: 4, Score: 1}}, "t:ab": {{Doc: 5, Score: 1}}, "t:it": {{Doc: 3, Score: 1}}, "t:x": nil, "v:a": nil,
		`t:"a"`: {{Doc: 0, Score: 2}, {Doc: 3, Score: 2}, {Doc: 4, Score: 4}}, `t:"a b"`: {{Doc: 0, Score: 1}, {Doc: 3, Score: 1}}, `t:"b a"`: {{Doc: 0, Score: 1}, {Doc: 3, Score: 1}}, `t:"a b a"`: {{Doc: 0, Score: 1}, {Doc: 3, Score: 1}}, `t:"a b b"`: nil, `t:"s a b a"`: {{Doc: 3, Score: 1}},
		`t:"a a"`: {{Doc: 4, Score: 3}}, `t:"a a a"`: {{Doc: 4, Score: 2}}, `t:"a a a a"`: {{Doc: 4, Score: 1}}, `t:"a a a a a"`: nil, `u:"a b"`: {{Doc: 4, Score: 1}}, `u:"b a"`: nil, `t:"c ab"`: {{Doc: 5, Score: 1}}, `t:"ab c"`: nil, `t:"a x"`: nil, `t:"x a"`: nil,
		"(and t:a t:b)": {{Doc: 0, Score: 3}, {Doc: 3, Score: 3}}, "(and t:a)": {{Doc: 0, Score: 2}, {Doc: 3, Score: 2}, {Doc: 4, Score: 4}}, "(and t:a t:x)": nil, "(and t:a t:a u:b)": {{Doc: 0, Score: 5}, {Doc: 4, Score: 9}}, `(and t:b t:"a b a" u:b)`: {{Doc: 0, Score: 3}},
		"(or t:b u:a)": {{Doc: 0, Score: 1}, {Doc: 1, Score: 3}, {Doc: 3, Score: 1}, {Doc: 4, Score: 1}}, "(or t:x v:a)": nil, "(or t:ab t:ab t:c)": {{Doc: 5, Score: 3}},
		"(not t:a)": {{Doc: 1}, {Doc: 2}, {Doc: 5}}, "(not t:x)": {{Doc: 0}, {Doc: 1}, {Doc: 2}, {Doc: 3}, {Doc: 4}, {Doc: 5}}, "(not (or t:a t:b t:c))": {{Doc: 2}}, "(not (not t:ab))": {{Doc: 5}}, "(not (or t:a (not t:a)))": nil,
		"(and t:b (not t:a))": {{Doc: 1, Score: 1}}, "(or t:ab (not t:a))": {{Doc: 1}, {Doc: 2}, {Doc: 5, Score: 1}}, "(and (not t:a) (not t:b))": {{Doc: 2}, {Doc: 5}},
	} {
		fits(t, s, parsed(t, text), want)
	}
}

// P13.1, Match: in a segment that was built those that chapter 12 tells of its documents, with the Scores that it tells.
func TestMatchBuilt(t *testing.T) {
	pick := chance(132)
	for many := range 30 {
		var texts []string
		for range many {
			text, bar := "", pick(14)
			for k := range pick(14) {
				if k == bar {
					text += "|"
				}
				text += []string{"a ", "b ", "a ", "B, ", "c ", "ab ", "A-", "é "}[pick(8)]
			}
			texts = append(texts, text)
		}
		s, docs := built(t, texts...)
		for _, q := range queries(t) {
			var want []api.Found
			for doc, d := range docs {
				if query.Fits(q, d) {
					want = append(want, api.Found{Doc: doc, Score: query.Score(q, d)})
				}
			}
			fits(t, s, q, want)
		}
	}
}

// P13.1, Match: in a segment that was made, what its lists tell, whatever stands in them.
func TestMatchMade(t *testing.T) {
	pick := chance(133)
	for _, many := range []int{0, 1, 2, 5, 8, 9, 16, 17, 40} {
		for range 4 {
			p := random(pick, many)
			s := made(t, p)
			for _, q := range queries(t) {
				fits(t, s, q, fitting(p, q))
			}
		}
	}
}

// P13.1, Match: two words at one place, words between that stand nowhere, the greatest places, and keys that are no term's.
func TestMatchParts(t *testing.T) {
	p := segment.Parts{Ids: rows(4), Seqs: rows(4), Keys: []string{"", "a", "t", "t\x00", "t\x00a", "t\x00b", "t:a"}, Lists: [][]api.Posting{
		{one(0, 0)}, {one(1, 0)}, {one(2, 0)}, {one(3, 0)}, {one(0, 0, 4), one(1, 3), one(2, last-1, last), one(3, 7)}, {one(0, 0, 1), one(1, 5), one(2, last), one(3, 6, 8, last)}, {one(3, 1)},
	}}
	s := made(t, p)
	for text, want := range map[string][]api.Found{
		`t:"a b"`: {{Doc: 0, Score: 1}, {Doc: 2, Score: 1}, {Doc: 3, Score: 1}}, `t:"b a"`: {{Doc: 3, Score: 1}}, `t:"b a b"`: {{Doc: 3, Score: 1}}, `t:"b b"`: {{Doc: 0, Score: 1}}, `t:"a a"`: {{Doc: 2, Score: 1}}, `t:"a a a"`: nil, `t:"a a b"`: nil, "t:a": {{Doc: 0, Score: 2}, {Doc: 1, Score: 1}, {Doc: 2, Score: 2}, {Doc: 3, Score: 1}}, "t:t": nil, "a:a": nil,
	} {
		fits(t, s, parsed(t, text), want)
	}
	for _, q := range queries(t) {
		fits(t, s, q, fitting(p, q))
	}
}

// P13.1, Match: lists of many blocks, of which one leaps over those of the other ones.
func TestMatchBlocks(t *testing.T) {
	const many = 700
	for _, steps := range [][3]int{{1, 1, 1}, {1, 2, 3}, {1, 97, 1}, {97, 1, 7}, {5, 7, 9}, {350, 1, 699}, {8, 8, 64}, {2, 3, 1000}, {1000, 1000, 1000}} {
		var texts []string
		for i := range many {
			text := ""
			for k, w := range []string{"a ", "b ", "c "} {
				if i%steps[k] == steps[k]/2 {
					text += w
				}
			}
			texts = append(texts, text)
		}
		s, _ := built(t, texts...)
		p := s.Parts()
		for _, text := range []string{"t:a", `t:"a b"`, `t:"b c"`, `t:"a b c"`, `t:"a c"`, `t:"c a"`, "(and t:a t:b t:c)", "(or t:a t:b)", "(not t:c)", `(and t:a (not t:"a b"))`} {
			q := parsed(t, text)
			fits(t, s, q, fitting(p, q))
		}
	}
}

// P13.1, Match: all documents of a segment without any, and of one whose documents have no words.
func TestMatchEmpty(t *testing.T) {
	none, _ := built(t)
	blank, _ := built(t, "", "|", " .")
	for _, q := range queries(t) {
		fits(t, none, q, nil)
		fits(t, blank, q, fitting(blank.Parts(), q))
	}
	fits(t, blank, parsed(t, "(not t:a)"), []api.Found{{Doc: 0}, {Doc: 1}, {Doc: 2}})
}

// ring is a query that stands in itself.
func ring(kind int) api.Query {
	kids := []api.Query{term("t", "a"), {}}
	if kind == api.IsNot {
		kids = kids[1:]
	}
	kids[len(kids)-1] = api.Query{Kind: kind, Kids: kids}
	return kids[len(kids)-1]
}

// wrong are queries that may not be, some of which would find something, if they were asked.
func wrong() []api.Query {
	a := term("t", "a")
	deep := a
	for range 6 {
		deep = of(api.IsNot, deep)
	}
	return []api.Query{
		{}, {Term: a.Term}, {Kids: []api.Query{a}}, {Kind: -1, Term: a.Term}, {Kind: 6, Term: a.Term}, {Kind: math.MaxInt, Kids: []api.Query{a}}, {Kind: math.MinInt}, {Kind: 4 + 1<<32, Kids: []api.Query{a}},
		{Kind: api.IsTerm, Term: a.Term, Words: []string{"a"}}, {Kind: api.IsTerm, Term: a.Term, Kids: []api.Query{a}}, {Kind: api.IsPhrase, Term: a.Term, Words: []string{"a"}}, {Kind: api.IsPhrase, Term: api.Term{Field: "t"}, Words: []string{"a"}, Kids: []api.Query{a}},
		{Kind: api.IsNot, Term: a.Term, Kids: []api.Query{a}}, {Kind: api.IsOr, Words: []string{"a"}, Kids: []api.Query{a}}, {Kind: api.IsAnd, Term: api.Term{Field: "t"}, Kids: []api.Query{a}},
		term("", "a"), term("T", "a"), term("t0", "a"), term("abcdefghijklm", "a"), term("t", ""), term("t", "A"), term("t", "a b"), term("t", strings.Repeat("a", 31)), phrase("t"), phrase("T", "a"), phrase("t", ""), phrase("t", "a", "B"), phrase("t", slices.Repeat([]string{"a"}, 7)...),
		of(api.IsAnd), of(api.IsOr), of(api.IsNot), of(api.IsNot, a, a), of(api.IsNot, a, term("t", "x")), of(api.IsOr, slices.Repeat([]api.Query{a}, 9)...), of(api.IsAnd, slices.Repeat([]api.Query{a}, 9)...), deep,
		of(api.IsOr, a, api.Query{}), of(api.IsNot, term("t", "A")), of(api.IsAnd, a, of(api.IsNot, phrase("t", "A"))), of(api.IsOr, a, of(api.IsNot, of(api.IsNot))), of(api.IsOr, a, of(api.IsNot, a, a)), ring(api.IsAnd), ring(api.IsOr), ring(api.IsNot),
	}
}

// P13.1, R1: of a query that may not be there is none, in whatever segment.
func TestMatchWrong(t *testing.T) {
	s, _ := built(t, "a a a a a a a a", "a", "b|a", "")
	none, _ := built(t)
	for _, q := range wrong() {
		if query.May(q) == api.OK {
			t.Fatalf("%s may be", told(q))
		}
		fits(t, s, q, nil)
		fits(t, none, q, nil)
		if got := match.Live(s, bits.Full(4), q); len(got) != 0 {
			t.Errorf("%s: %v", told(q), got)
		}
	}
}

// lives holds Live's answer against those of Match's whose place is in the set.
func lives(t *testing.T, s *segment.Segment, live *bits.Set, q api.Query) {
	t.Helper()
	var want []api.Found
	for _, f := range match.Match(s, q) {
		if live != nil && live.Has(f.Doc) {
			want = append(want, f)
		}
	}
	if got := match.Live(s, live, q); !slices.Equal(got, want) {
		t.Fatalf("%s: %v, want %v", told(q), got, want)
	}
}

// P13.1, Live: what fits in the whole segment, of it those in the set.
func TestLive(t *testing.T) {
	s, _ := built(t, "a b", "b", "a", "a b a|a", "", "b a", "c")
	for text, want := range map[string][]api.Found{"t:a": {{Doc: 2, Score: 1}, {Doc: 3, Score: 2}}, "(not t:a)": {{Doc: 4}, {Doc: 6}}, `t:"a b"`: {{Doc: 3, Score: 1}}, "(or t:c u:a)": {{Doc: 3, Score: 1}, {Doc: 6, Score: 1}}, "t:x": nil} {
		live := bits.New(7)
		for _, doc := range []int{2, 3, 4, 6} {
			live.Put(doc)
		}
		if got := match.Live(s, live, parsed(t, text)); !slices.Equal(got, want) {
			t.Errorf("%s: %v", text, got)
		}
	}
	for in := range 1 << 7 {
		live := bits.New(7)
		for doc := range 7 {
			if in>>doc&1 == 1 {
				live.Put(doc)
			}
		}
		for _, q := range queries(t)[:60] {
			lives(t, s, live, q)
		}
	}
}

// P13.1, Live: sets of other sizes than the segment's, and none.
func TestLiveOthers(t *testing.T) {
	s, _ := built(t, "a b", "b", "a", "a b a|a", "", "b a", "c")
	none, _ := built(t)
	for _, q := range queries(t) {
		for _, live := range []*bits.Set{nil, bits.New(0), bits.New(7), bits.Full(0), bits.Full(1), bits.Full(3), bits.Full(6), bits.Full(7), bits.Full(8), bits.Full(64), bits.Full(1000)} {
			lives(t, s, live, q)
			lives(t, none, live, q)
		}
		if !slices.Equal(match.Live(s, bits.Full(7), q), match.Match(s, q)) {
			t.Errorf("%s: not all live", told(q))
		}
		if len(match.Live(s, nil, q)) != 0 {
			t.Errorf("%s: one lives", told(q))
		}
	}
}

// shelf are documents that lists of found ones are made of, rising.
var shelf = []int{math.MinInt, math.MinInt + 1, -1, 0, 1, 2, 7, math.MaxInt - 1, math.MaxInt}

// drawn is the list of those documents of the shelf whose bit stands in a number; each has another Score.
func drawn(in, score int) []api.Found {
	var l []api.Found
	for i, doc := range shelf {
		if in>>i&1 == 1 {
			l = append(l, api.Found{Doc: doc, Score: score + i})
		}
	}
	return l
}

// joined holds And's and Or's answers against what is found document by document.
func joined(t *testing.T, a, b []api.Found) {
	t.Helper()
	var docs []int
	left, right := map[int]int{}, map[int]int{}
	for _, f := range a {
		left[f.Doc] = f.Score
		docs = append(docs, f.Doc)
	}
	for _, f := range b {
		right[f.Doc] = f.Score
		docs = append(docs, f.Doc)
	}
	slices.Sort(docs)
	var both, either []api.Found
	for _, doc := range slices.Compact(docs) {
		f := api.Found{Doc: doc, Score: left[doc] + right[doc]}
		either = append(either, f)
		_, in := left[doc]
		if _, too := right[doc]; in && too {
			both = append(both, f)
		}
	}
	if got := match.And(a, b); !slices.Equal(got, both) {
		t.Fatalf("And(%v, %v): %v", a, b, got)
	}
	if got := match.Or(a, b); !slices.Equal(got, either) || match.Count(got) != len(either) {
		t.Fatalf("Or(%v, %v): %v", a, b, got)
	}
}

// P13.2, And and Or: all lists of the shelf's documents, and long ones.
func TestAndOr(t *testing.T) {
	for x := range 1 << len(shelf) {
		for y := range 1 << len(shelf) {
			joined(t, drawn(x, 1), drawn(y, 100))
		}
	}
	for _, scores := range [][2]int{{0, 0}, {-4, 4}, {-100, 1}, {-9, -9}, {1 << 40, 1 << 41}} {
		joined(t, drawn(0b111011101, scores[0]), drawn(0b101110111, scores[1]))
	}
	pick := chance(134)
	for range 300 {
		l := [2][]api.Found{}
		often := [2]int{pick(10), pick(10)}
		for doc := range pick(200) {
			for k := range l {
				if pick(10) <= often[k] {
					l[k] = append(l[k], api.Found{Doc: doc, Score: pick(9) - 4})
				}
			}
		}
		joined(t, l[0], l[1])
		joined(t, l[1], l[0])
	}
	joined(t, nil, []api.Found{})
	joined(t, []api.Found{}, nil)
}

// P13.2, Not: those of 0 to n - 1 alone, whatever else stands in the list.
func TestNot(t *testing.T) {
	for x := range 1 << len(shelf) {
		a := drawn(x, 5)
		for _, n := range []int{math.MinInt, -1, 0, 1, 2, 3, 6, 7, 8, 9, 20} {
			var want []api.Found
			for doc := 0; doc < n; doc++ {
				if !slices.ContainsFunc(a, func(f api.Found) bool { return f.Doc == doc }) {
					want = append(want, api.Found{Doc: doc})
				}
			}
			if got := match.Not(a, n); !slices.Equal(got, want) {
				t.Fatalf("Not(%v, %d): %v", a, n, got)
			}
		}
	}
	if got := match.Not(match.Not(nil, 1000), 1000); len(got) != 0 {
		t.Error(got)
	}
}

// P13.2, Side: some by hand, the edges among them.
func TestSide(t *testing.T) {
	for _, c := range []struct {
		l    [][]int
		want int
	}{
		{nil, 0}, {[][]int{}, 0}, {[][]int{nil}, 0}, {[][]int{{}}, 0}, {[][]int{{0}}, 1}, {[][]int{{0, 3}}, 2}, {[][]int{{-5, 0, 7, math.MaxInt}}, 4}, {[][]int{{math.MinInt, math.MaxInt}}, 2},
		{[][]int{{0, 3, 5}, {1, 4}, {2, 5}}, 2}, {[][]int{{1}, {0}}, 0}, {[][]int{{0}, {0}}, 0}, {[][]int{{0}, {2}}, 0}, {[][]int{{0}, {0, 1, 2}}, 1}, {[][]int{{0, 1, 2}, {0, 1, 2}}, 2}, {[][]int{{0, 1, 2}, {0, 1, 2}, {0, 1, 2}}, 1}, {[][]int{{0, 1, 2}, {0, 1, 2}, {0, 1, 2}, {0, 1, 2}}, 0},
		{[][]int{nil, {1}}, 0}, {[][]int{{0}, nil}, 0}, {[][]int{{0}, {1}, nil}, 0}, {[][]int{{0}, nil, {2}}, 0}, {[][]int{{0, 9}, {1}, {2, 11}}, 1}, {[][]int{{-2, -1}, {-1, 0}, {0, 1}}, 2}, {[][]int{{-1}, {0}}, 1},
		{[][]int{{math.MaxInt - 1}, {math.MaxInt}}, 1}, {[][]int{{math.MaxInt}, {math.MinInt}}, 0}, {[][]int{{math.MaxInt - 1}, {math.MaxInt}, {math.MinInt}}, 0}, {[][]int{{math.MinInt}, {math.MinInt + 1}}, 1}, {[][]int{{last - 1, last}, {last, last + 1}}, 2},
	} {
		if got := match.Side(c.l); got != c.want || beside(c.l) != c.want {
			t.Errorf("Side(%v): %d, want %d", c.l, got, c.want)
		}
	}
}

// P13.2, Side: all three lists of small numbers, and more lists by chance.
func TestSideOfAll(t *testing.T) {
	numbers := func(in int) []int {
		var l []int
		for i := range 5 {
			if in>>i&1 == 1 {
				l = append(l, i)
			}
		}
		return l
	}
	for in := range 1 << 15 {
		l := [][]int{numbers(in), numbers(in >> 5), numbers(in >> 10)}
		if got := match.Side(l); got != beside(l) {
			t.Fatalf("Side(%v): %d", l, got)
		}
	}
	pick := chance(135)
	for range 2000 {
		l := make([][]int, pick(8))
		often := 4 + pick(6)
		for k := range l {
			for n := range 40 {
				if pick(10) < often {
					l[k] = append(l[k], n-9)
				}
			}
		}
		if got := match.Side(l); got != beside(l) {
			t.Fatalf("Side(%v): %d", l, got)
		}
	}
}

// P13.2, Count: how many there are, also of lists that do not rise.
func TestCount(t *testing.T) {
	for n := range 50 {
		if got := match.Count(make([]api.Found, n)); got != n {
			t.Errorf("%d: %d", n, got)
		}
	}
	if match.Count(nil) != 0 {
		t.Error("nil")
	}
}

// bare is a list without its Scores.
func bare(l []api.Found) []api.Found {
	var docs []api.Found
	for _, f := range l {
		docs = append(docs, api.Found{Doc: f.Doc})
	}
	return docs
}

// P13.3: And is Not of Or of Nots, but for Scores, of lists and of queries.
func TestAndIsNotOfOrOfNots(t *testing.T) {
	pick := chance(136)
	for n := range 60 {
		var a, b []api.Found
		for doc := range n {
			if pick(3) > 0 {
				a = append(a, api.Found{Doc: doc, Score: pick(9)})
			}
			if pick(3) > 0 {
				b = append(b, api.Found{Doc: doc, Score: pick(9)})
			}
		}
		if got := match.Not(match.Or(match.Not(a, n), match.Not(b, n)), n); !slices.Equal(got, bare(match.And(a, b))) {
			t.Fatalf("%v, %v: %v", a, b, got)
		}
		if got := match.Not(match.And(match.Not(a, n), match.Not(b, n)), n); !slices.Equal(got, bare(match.Or(a, b))) {
			t.Fatalf("%v, %v: %v", a, b, got)
		}
		s := made(t, random(pick, n))
		for range 20 {
			p, q := some(pick, 3), some(pick, 3)
			nots := of(api.IsNot, of(api.IsOr, of(api.IsNot, p), of(api.IsNot, q)))
			if got := match.Match(s, nots); !slices.Equal(got, bare(match.Match(s, of(api.IsAnd, p, q)))) {
				t.Fatalf("%s, %s: %v", told(p), told(q), got)
			}
		}
	}
}

// roomy is a list with room behind it, in which something stands.
func roomy[V any](l []V, behind V) []V {
	return append(slices.Clone(l), behind, behind)[:len(l)]
}

// R4: what is handed in is not changed, the room behind it neither.
func TestHandedIn(t *testing.T) {
	mark := api.Found{Doc: 77, Score: 78}
	for x := range 1 << 6 {
		for y := range 1 << 6 {
			a, b := roomy(drawn(x<<3, 1), mark), roomy(drawn(y<<2, 2), mark)
			match.And(a, b)
			match.Or(a, b)
			match.Not(a, 9)
			match.Count(a)
			if !slices.Equal(a[:len(a)+2], append(drawn(x<<3, 1), mark, mark)) || !slices.Equal(b[:len(b)+2], append(drawn(y<<2, 2), mark, mark)) {
				t.Fatal(a, b)
			}
		}
	}
	l := roomy([][]int{roomy([]int{0, 3}, 9), roomy([]int{1, 4}, 9)}, []int{8})
	match.Side(l)
	if fmt.Sprint(l[:4], l[0][:4], l[1][:4]) != "[[0 3] [1 4] [8] [8]] [0 3 9 9] [1 4 9 9]" {
		t.Error(l)
	}
	s, _ := built(t, "a b", "b", "a", "a b a|a")
	was := s.Parts()
	live := bits.Full(4)
	live.Cut(2)
	for _, q := range queries(t) {
		text := told(q)
		match.Match(s, q)
		match.Live(s, live, q)
		if told(q) != text || !slices.Equal(live.List(), []int{0, 1, 3}) || live.Size() != 4 {
			t.Fatal(text)
		}
	}
	if !segment.Same(s, made(t, was)) {
		t.Error("the segment is changed")
	}
}

// R4: what is answered is new memory, that shares none with what was handed in or with another answer.
func TestAnswersAreNew(t *testing.T) {
	spoil := func(l []api.Found) {
		l = l[:cap(l)]
		for i := range l {
			l[i] = api.Found{Doc: -7, Score: -7}
		}
	}
	for x := range 1 << 6 {
		for _, y := range []int{0, x, 0b11, 0b111111} {
			a, b := drawn(x<<3, 1), drawn(y<<3, 2)
			want := [4][]api.Found{match.And(a, b), match.Or(a, b), match.Or(b, a), match.Not(a, 9)}
			kept := [4][]api.Found{}
			for k := range want {
				kept[k] = slices.Clone(want[k])
			}
			for _, l := range [][]api.Found{match.And(a, b), match.Or(a, b), match.Or(b, a), match.Not(a, 9)} {
				spoil(l)
			}
			if !slices.Equal(a, drawn(x<<3, 1)) || !slices.Equal(b, drawn(y<<3, 2)) {
				t.Fatal("what was handed in is changed", a, b)
			}
			spoil(a)
			spoil(b)
			for k := range want {
				if !slices.Equal(want[k], kept[k]) {
					t.Fatal(k, want[k], kept[k])
				}
			}
		}
	}
	s, _ := built(t, "a b", "b", "a", "a b a|a")
	for _, q := range queries(t) {
		want := slices.Clone(match.Match(s, q))
		spoil(match.Match(s, q))
		spoil(match.Live(s, bits.Full(4), q))
		if got := match.Live(s, bits.Full(4), q); !slices.Equal(got, want) {
			t.Fatalf("%s: %v, want %v", told(q), got, want)
		}
		fits(t, s, q, want)
	}
}

// P13.1: many documents, many words, and as many queries one in the other as may be.
func TestGreat(t *testing.T) {
	const many = 30000
	var texts []string
	for i := range many {
		texts = append(texts, strings.Repeat("a b ", i%4)+strings.Repeat("c ", i/(many-3)))
	}
	s, _ := built(t, texts...)
	for text, want := range map[string]int{"t:a": many / 4 * 3, `t:"a b"`: many / 4 * 3, `t:"a b a b a b"`: many / 4, `t:"b c"`: 3, "(not t:a)": many / 4, `(and (not t:"b a") t:a)`: many / 4, "(or t:a (not t:a))": many, "(and t:a t:c)": 3} {
		if got := match.Match(s, parsed(t, text)); match.Count(got) != want {
			t.Errorf("%s: %d, want %d", text, len(got), want)
		}
	}
	whole := term("t", "c")
	for k := range api.MaxDeep - 1 {
		whole = of(api.IsAnd+k%2, slices.Repeat([]api.Query{whole}, api.MaxKids)...)
	}
	fits(t, s, whole, []api.Found{{Doc: many - 3, Score: 1 << 15}, {Doc: many - 2, Score: 1 << 15}, {Doc: many - 1, Score: 1 << 15}})
}

// P13.2: of long lists Side, And, Or and Not are told soon.
func TestLong(t *testing.T) {
	const many = 300000
	var up, even []int
	var a, b []api.Found
	for n := range many {
		up, a = append(up, n), append(a, api.Found{Doc: n, Score: 1})
		if n%2 == 0 {
			even, b = append(even, n), append(b, api.Found{Doc: n, Score: 2})
		}
	}
	if match.Side([][]int{up, even}) != many/2-1 || match.Side([][]int{even, up}) != many/2 || match.Side([][]int{even, even}) != 0 {
		t.Error("two lists")
	}
	var ladder [][]int
	for n := range many {
		ladder = append(ladder, []int{n})
	}
	if match.Side(ladder) != 1 || match.Side(append([][]int{up}, ladder[1:]...)) != 1 || match.Side(append(ladder, []int{0})) != 0 {
		t.Error("a ladder")
	}
	if match.Count(match.And(a, b)) != many/2 || match.Count(match.Or(a, b)) != many || match.Count(match.Not(b, many)) != many/2 || match.Count(match.Not(nil, many)) != many {
		t.Error("long lists")
	}
}
