package query_test

import (
	"math"
	"slices"
	"strconv"
	"strings"
	"testing"

	"concordance/api"
	"concordance/query"
)

// chance tells numbers that seem to come by chance, the same ones each time.
func chance(seed uint64) func(n int) int {
	return func(n int) int {
		seed = seed*6364136223846793005 + 1442695040888963407
		return int(seed>>33) % n
	}
}

func term(field, w string) api.Query {
	return api.Query{Kind: api.IsTerm, Term: api.Term{Field: field, Word: w}}
}

func phrase(field string, words ...string) api.Query {
	return api.Query{Kind: api.IsPhrase, Term: api.Term{Field: field}, Words: words}
}

func of(kind int, kids ...api.Query) api.Query {
	return api.Query{Kind: kind, Kids: kids}
}

// chain is a query in so many others, each of the next of these kinds.
func chain(q api.Query, n int, kinds ...int) api.Query {
	for i := range n {
		q = of(kinds[i%len(kinds)], q)
	}
	return q
}

// full is a query as deep as may be whose kids are as many as may be on each of the levels above the lowest ones.
func full(wide int) api.Query {
	q := of(api.IsNot, of(api.IsNot, term("t", "a")))
	for i := range 3 {
		q = of(api.IsAnd+i%2, slices.Repeat([]api.Query{q}, wide)...)
	}
	return q
}

// ring is a query that stands in itself, as its kid at a place.
func ring(kind, wide, at int) api.Query {
	kids := slices.Repeat([]api.Query{term("t", "a")}, wide)
	kids[at] = of(kind, kids...)
	kids[at].Kids = kids
	return of(kind, kids...)
}

// words are words that may be, at the edges, and ordinary ones.
func words() []string {
	return []string{"a", "b", "c", "ab", "z", "0", "9", "3pm", "and", "or", "not", "t", "ß", "ö", "ø", "ÿ", "\u0100", "\u024f", strings.Repeat("x", 30), strings.Repeat("ä", 15)}
}

// noWords are words that may not be.
func noWords() []string {
	return []string{"", " ", "A", "aB", "a b", "a ", " a", "it's", "a:b", "a\"", "\"a\"", "(", "a)", "_", "/", "@", "[", "`", "{", "\u00c0", "\u00d7", "\u00f7", "\u0250", "€", "日", "\x00", "a\x00", "\xff", "a\xff", "\xc3", "\ufffd", strings.Repeat("x", 31), strings.Repeat("ä", 15) + "x", strings.Repeat("x", 5000)}
}

// names are fields' names that may be.
func names() []string {
	return []string{"t", "u", "ta", "a", "z", "and", "or", "not", "title", "abcdefghijkl", "zzzzzzzzzzzz"}
}

// noNames are names that may not be.
func noNames() []string {
	return []string{"", " ", "T", "tT", "0", "t0", "t ", " t", "t t", "t:", ":", "(t", "t)", "\"", "ä", "{", "`", "@", "\x00", "t\x00", "\xff", "abcdefghijklm", strings.Repeat("t", 5000)}
}

// some is a query that may be, by chance, of at most so many one in the other.
func some(pick func(n int) int, deep int) api.Query {
	kind := 1 + pick(5)
	if deep == 1 {
		kind = []int{api.IsTerm, api.IsPhrase}[pick(2)]
	}
	field := names()[pick(3)]
	if pick(8) == 0 {
		field = names()[pick(len(names()))]
	}
	one := func() string {
		if pick(6) == 0 {
			return words()[pick(len(words()))]
		}
		return words()[pick(3)]
	}
	many := func(most int) int { return 1 + min(pick(most), pick(most)) }
	switch kind {
	case api.IsTerm:
		return term(field, one())
	case api.IsPhrase:
		q := phrase(field)
		for range many(api.MaxPhrase) {
			q.Words = append(q.Words, one())
		}
		return q
	case api.IsNot:
		return of(kind, some(pick, deep-1))
	}
	q := of(kind)
	for range many(api.MaxKids) {
		q.Kids = append(q.Kids, some(pick, 1+pick(deep-1)))
	}
	return q
}

// queries are ones that may be: the edges, and some by chance.
func queries() []api.Query {
	a, b := term("t", "a"), term("u", "b")
	l := []api.Query{
		a, b, phrase("t", "a"), phrase("t", "a", "b"), phrase("t", "a", "a", "a"), phrase("u", slices.Repeat([]string{strings.Repeat("x", 30)}, 6)...),
		of(api.IsAnd, a), of(api.IsOr, a), of(api.IsNot, a), of(api.IsAnd, a, b), of(api.IsAnd, b, a), of(api.IsOr, a, b), of(api.IsOr, a, a),
		of(api.IsAnd, a, of(api.IsNot, phrase("t", "b", "c"))), of(api.IsAnd, of(api.IsOr, a, b), of(api.IsAnd, b), of(api.IsNot, a), a),
		of(api.IsAnd, slices.Repeat([]api.Query{a}, 8)...), of(api.IsOr, slices.Repeat([]api.Query{phrase("t", "a", "b")}, 8)...), full(2), full(8),
	}
	for _, w := range words() {
		l = append(l, term("t", w), phrase("t", w), phrase("u", "a", w))
	}
	for _, name := range names() {
		l = append(l, term(name, "a"), phrase(name, "a", "b"))
	}
	for _, kind := range []int{api.IsAnd, api.IsOr, api.IsNot} {
		for n := range 6 {
			l = append(l, chain(a, n, kind), chain(phrase("t", "a", "b"), n, kind, api.IsNot))
		}
	}
	pick := chance(121)
	for range 400 {
		l = append(l, some(pick, 1+pick(6)))
	}
	return l
}

// wrong are queries that may not be, each with its error.
func wrong() []struct {
	q api.Query
	e api.Errno
} {
	type row = struct {
		q api.Query
		e api.Errno
	}
	a := term("t", "a")
	l := []row{{api.Query{}, api.ErrQuery}, {chain(a, 6, api.IsNot), api.ErrDeep}, {full(9), api.ErrMany}, {of(api.IsNot, full(1)), api.ErrDeep}, {of(api.IsNot, a, a), api.ErrMany}}
	for _, kind := range []int{0, -1, 6, 7, 8, math.MaxInt, math.MinInt, 1 + 1<<32, 5 + 1<<33} {
		l = append(l, row{api.Query{Kind: kind}, api.ErrQuery}, row{api.Query{Kind: kind, Term: a.Term}, api.ErrQuery}, row{api.Query{Kind: kind, Kids: []api.Query{a}}, api.ErrQuery})
	}
	for _, w := range noWords() {
		l = append(l, row{term("t", w), api.ErrQuery}, row{phrase("t", w), api.ErrQuery}, row{phrase("t", "a", w), api.ErrQuery}, row{phrase("t", w, "a"), api.ErrQuery})
	}
	for _, name := range noNames() {
		l = append(l, row{term(name, "a"), api.ErrName}, row{phrase(name, "a"), api.ErrName})
	}
	for _, kind := range []int{api.IsAnd, api.IsOr, api.IsNot} {
		l = append(l, row{of(kind), api.ErrQuery}, row{api.Query{Kind: kind, Kids: []api.Query{}}, api.ErrQuery})
		l = append(l, row{chain(a, 20, kind), api.ErrDeep}, row{ring(kind, 1, 0), api.ErrDeep}, row{of(kind, slices.Repeat([]api.Query{a}, 9)...), api.ErrMany})
		l = append(l, row{api.Query{Kind: kind, Kids: []api.Query{a}, Term: api.Term{Field: "t"}}, api.ErrQuery}, row{api.Query{Kind: kind, Kids: []api.Query{a}, Words: []string{"a"}}, api.ErrQuery})
	}
	l = append(l, row{ring(api.IsAnd, 8, 7), api.ErrDeep}, row{ring(api.IsOr, 3, 1), api.ErrDeep}, row{phrase("t"), api.ErrQuery}, row{phrase("t", slices.Repeat([]string{"a"}, 7)...), api.ErrMany})
	return l
}

// The document's example.
func TestExample(t *testing.T) {
	s := `(and t:a (not t:"b c"))`
	want := of(api.IsAnd, term("t", "a"), of(api.IsNot, phrase("t", "b", "c")))
	if q, e := query.Parse(s); e != api.OK || !equal(q, want) {
		t.Error(q, e)
	}
	if p, e := query.Print(want); e != api.OK || p != s {
		t.Error(p, e)
	}
}

// equal tells whether two queries are the same, found one by one.
func equal(a, b api.Query) bool {
	if a.Kind != b.Kind || a.Term.Field != b.Term.Field || a.Term.Word != b.Term.Word || len(a.Words) != len(b.Words) || len(a.Kids) != len(b.Kids) {
		return false
	}
	for i := range a.Words {
		if a.Words[i] != b.Words[i] {
			return false
		}
	}
	for i := range a.Kids {
		if !equal(a.Kids[i], b.Kids[i]) {
			return false
		}
	}
	return true
}

// P12.1, May.
func TestMay(t *testing.T) {
	for _, q := range queries() {
		if e := query.May(q); e != api.OK {
			t.Errorf("May(%v) = %v", q, e)
		}
	}
	for i, c := range wrong() {
		if e := query.May(c.q); e != c.e {
			t.Errorf("%d, of the Kind %d: %v, want %v", i, c.q.Kind, e, c.e)
		}
	}
}

// P12.1, May: of each kind each field that it does not have; one that it has, and is empty, is zero.
func TestMayFields(t *testing.T) {
	kids := []api.Query{term("t", "a")}
	for kind, own := range map[int]api.Query{api.IsTerm: term("t", "a"), api.IsPhrase: phrase("t", "a"), api.IsAnd: of(api.IsAnd, kids...), api.IsOr: of(api.IsOr, kids...), api.IsNot: of(api.IsNot, kids...)} {
		for in := range 1 << 4 {
			q, want := own, api.OK
			set := func(bit int, has bool, put func()) {
				if in>>bit&1 == 1 && !has {
					put()
					want = api.ErrQuery
				}
			}
			set(0, kind == api.IsTerm || kind == api.IsPhrase, func() { q.Term.Field = "u" })
			set(1, kind == api.IsTerm, func() { q.Term.Word = "b" })
			set(2, kind == api.IsPhrase, func() { q.Words = []string{"c"} })
			set(3, kind != api.IsTerm && kind != api.IsPhrase, func() { q.Kids = kids })
			if e := query.May(q); e != want {
				t.Errorf("May(%v) = %v, want %v", q, e, want)
			}
			if q.Words == nil {
				q.Words = []string{}
			}
			if q.Kids == nil {
				q.Kids = make([]api.Query, 0, 3)
			}
			if e := query.May(q); e != want {
				t.Errorf("of empty lists May(%v) = %v, want %v", q, e, want)
			}
		}
	}
}

// P12.1, May: how many words and kids there may be, and how deep they may be.
func TestMayMany(t *testing.T) {
	as := func(n, most int) api.Errno {
		if n == 0 {
			return api.ErrQuery
		}
		if n > most {
			return api.ErrMany
		}
		return api.OK
	}
	for _, n := range []int{0, 1, 2, 3, 4, 5, 6, 7, 8, 9, 10, 100, 100000} {
		l := slices.Repeat([]api.Query{term("t", "a")}, n)
		for i, c := range []struct {
			q    api.Query
			want api.Errno
		}{{phrase("t", slices.Repeat([]string{"a"}, n)...), as(n, 6)}, {of(api.IsAnd, l...), as(n, 8)}, {of(api.IsOr, l...), as(n, 8)}, {of(api.IsNot, l...), as(n, 1)}} {
			if e := query.May(c.q); e != c.want {
				t.Errorf("%d, of %d: %v, want %v", i, n, e, c.want)
			}
		}
	}
	for n := range 20 {
		want := api.OK
		if n+1 > 6 {
			want = api.ErrDeep
		}
		for _, q := range []api.Query{chain(term("t", "a"), n, api.IsNot), chain(phrase("t", "a"), n, api.IsAnd), chain(term("t", "a"), n, api.IsOr), chain(term("t", "a"), n, api.IsOr, api.IsNot, api.IsAnd)} {
			if e := query.May(q); e != want {
				t.Errorf("%d in one: %v, want %v", n+1, e, want)
			}
			for at := range 8 {
				kids := slices.Repeat([]api.Query{term("t", "a")}, 8)
				kids[at] = q
				if e := query.May(of(api.IsOr, kids...)); (e == api.ErrDeep) != (n+2 > 6) {
					t.Errorf("%d in one, at %d: %v", n+2, at, e)
				}
			}
		}
	}
}

// faults are queries that have one fault or several, with the error that is told first.
func faults() []struct {
	q api.Query
	e api.Errno
} {
	type row = struct {
		q api.Query
		e api.Errno
	}
	a, z := term("t", "a"), api.Query{}
	many := func(n int, q api.Query) []api.Query { return slices.Repeat([]api.Query{q}, n) }
	seven := slices.Repeat([]string{"a"}, 7)
	return []row{
		// another field ahead of the name, the name ahead of words, words ahead of how many there are
		{api.Query{Kind: api.IsTerm, Kids: []api.Query{a}}, api.ErrQuery},
		{api.Query{Kind: api.IsTerm, Words: seven}, api.ErrQuery},
		{term("T", "A"), api.ErrName}, {term("", ""), api.ErrName},
		{api.Query{Kind: api.IsPhrase, Term: api.Term{Field: "T", Word: "a"}, Words: seven}, api.ErrQuery},
		{api.Query{Kind: api.IsPhrase, Term: api.Term{Field: "T"}, Kids: []api.Query{a}, Words: seven}, api.ErrQuery},
		{phrase("T", seven...), api.ErrName}, {phrase("T"), api.ErrName}, {phrase("", "A"), api.ErrName},
		{phrase("t", append(seven[:7:7], "A")...), api.ErrQuery}, {phrase("t", append([]string{""}, seven...)...), api.ErrQuery}, {phrase("t", seven...), api.ErrMany},
		// another field ahead of kids, their number ahead of what they are
		{api.Query{Kind: api.IsAnd, Words: seven}, api.ErrQuery}, {api.Query{Kind: api.IsAnd, Words: seven, Kids: many(9, a)}, api.ErrQuery},
		{api.Query{Kind: api.IsNot, Term: api.Term{Word: "a"}, Kids: many(2, a)}, api.ErrQuery}, {api.Query{Kind: api.IsOr, Term: api.Term{Field: "T"}, Kids: many(9, a)}, api.ErrQuery},
		{of(api.IsAnd, many(9, z)...), api.ErrMany}, {of(api.IsOr, many(9, term("T", "a"))...), api.ErrMany}, {of(api.IsNot, z, z), api.ErrMany}, {of(api.IsNot, term("T", "a")), api.ErrName},
		{api.Query{Kind: 6, Kids: many(9, a)}, api.ErrQuery}, {api.Query{Kind: 6, Kids: []api.Query{term("T", "a")}}, api.ErrQuery},
		// how deep it is ahead of all that a seventh one is, but not of what stands ahead of it
		{chain(z, 6, api.IsNot), api.ErrDeep}, {chain(term("T", "a"), 6, api.IsAnd), api.ErrDeep}, {chain(of(api.IsNot), 6, api.IsOr), api.ErrDeep}, {chain(of(api.IsNot, a, a), 6, api.IsOr), api.ErrDeep},
		{chain(z, 5, api.IsNot), api.ErrQuery}, {chain(term("T", "a"), 5, api.IsNot), api.ErrName}, {chain(of(api.IsNot, a, a), 5, api.IsOr), api.ErrMany}, {chain(of(api.IsNot, z), 5, api.IsOr), api.ErrDeep},
		{of(api.IsNot, chain(a, 6, api.IsNot), a), api.ErrMany}, {api.Query{Kind: api.IsNot, Words: seven, Kids: []api.Query{chain(a, 6, api.IsNot)}}, api.ErrQuery},
	}
}

// P12.1, May: of several errors of one query the first one.
func TestMayRow(t *testing.T) {
	for i, c := range faults() {
		if e := query.May(c.q); e != c.e {
			t.Errorf("%d: %v, want %v", i, e, c.e)
		}
	}
}

// P12.1, May: of faults at two places the error of that which is gone through first, each query ahead of its kids.
func TestMayGoneThrough(t *testing.T) {
	// tree has, as it is gone through, the queries 0 to 8; put is handed each as it is made.
	tree := func(put func(at int, q api.Query) api.Query) api.Query {
		leaf := func(at int) api.Query { return put(at, term("t", "a")) }
		low := func(at int) api.Query { return put(at, of(api.IsOr, leaf(at+1), leaf(at+2))) }
		return put(0, of(api.IsAnd, low(1), leaf(4), put(5, of(api.IsAnd, low(6)))))
	}
	damage := []struct {
		e  api.Errno
		do func(q api.Query) api.Query
	}{
		{api.ErrQuery, func(q api.Query) api.Query { q.Words = []string{"a"}; return q }},
		{api.ErrQuery, func(q api.Query) api.Query { q.Kind = 9; return q }},
		{api.ErrName, func(api.Query) api.Query { return term("T", "a") }},
		{api.ErrMany, func(q api.Query) api.Query { return of(api.IsNot, q, q) }},
		{api.ErrDeep, func(q api.Query) api.Query { return chain(q, 6, api.IsNot) }},
	}
	for i := range 9 {
		for j := i + 1; j < 9; j++ {
			for _, one := range damage {
				for _, two := range damage {
					q := tree(func(at int, q api.Query) api.Query {
						if at == i {
							return one.do(q)
						}
						if at == j {
							return two.do(q)
						}
						return q
					})
					if e := query.May(q); e != one.e {
						t.Fatalf("faults at %d and %d: %v, want %v (the other one is %v)", i, j, e, one.e, two.e)
					}
				}
			}
		}
	}
}

// P12.1, Deep: of all queries, also of those that may not be.
func TestDeep(t *testing.T) {
	a := term("t", "a")
	for i, c := range []struct {
		q    api.Query
		want int
	}{
		{a, 1}, {api.Query{}, 1}, {phrase("t", "a", "b"), 1}, {of(api.IsAnd), 1}, {api.Query{Kind: api.IsAnd, Kids: []api.Query{}}, 1}, {of(api.IsAnd, a), 2}, {of(api.IsAnd, a, a, a), 2}, {of(9, api.Query{}), 2},
		{of(api.IsAnd, a, of(api.IsNot, a)), 3}, {of(api.IsAnd, of(api.IsNot, a), a), 3}, {of(api.IsOr, of(api.IsNot, a), of(api.IsNot, of(api.IsNot, a)), a), 4}, {of(api.IsOr, chain(a, 3, api.IsOr), chain(a, 2, api.IsOr)), 5},
		{of(api.IsOr, of(api.IsOr, a, a), of(api.IsOr, a, a), of(api.IsOr, a, a)), 3}, {full(2), 6}, {full(8), 6}, {of(api.IsNot, full(3)), 7}, {api.Query{Kind: api.IsTerm, Term: a.Term, Kids: []api.Query{a}}, 2},
	} {
		if n := query.Deep(c.q); n != c.want {
			t.Errorf("%d: %d, want %d", i, n, c.want)
		}
	}
	for _, n := range []int{0, 1, 5, 6, 7, 100, 1000000} {
		if d := query.Deep(chain(a, n, api.IsNot, api.IsAnd)); d != n+1 {
			t.Errorf("%d, want %d", d, n+1)
		}
	}
	for _, q := range queries() {
		if n := query.Deep(q); n != deep(q) {
			t.Errorf("Deep(%v) = %d", q, n)
		}
	}
}

// deep is how deep a query is, found one by one.
func deep(q api.Query) int {
	n := 0
	for _, kid := range q.Kids {
		n = max(n, deep(kid))
	}
	return n + 1
}

// P12.2, Print.
func TestPrint(t *testing.T) {
	a := term("t", "a")
	for _, c := range []struct {
		q    api.Query
		want string
	}{
		{a, "t:a"}, {term("title", "ÿ9"), "title:ÿ9"}, {phrase("t", "a"), `t:"a"`}, {phrase("u", "a", "b", "a"), `u:"a b a"`}, {phrase("t", "a", "b", "c", "d", "e", "f"), `t:"a b c d e f"`},
		{of(api.IsAnd, a), "(and t:a)"}, {of(api.IsOr, a), "(or t:a)"}, {of(api.IsNot, a), "(not t:a)"}, {of(api.IsAnd, a, term("u", "b"), phrase("t", "c", "d")), `(and t:a u:b t:"c d")`},
		{of(api.IsOr, of(api.IsNot, a), of(api.IsAnd, a, a), a), "(or (not t:a) (and t:a t:a) t:a)"}, {chain(a, 5, api.IsNot), "(not (not (not (not (not t:a)))))"},
		{term("and", "or"), "and:or"}, {of(api.IsNot, term("not", "not")), "(not not:not)"}, {of(api.IsOr, slices.Repeat([]api.Query{a}, 8)...), "(or" + strings.Repeat(" t:a", 8) + ")"},
		{api.Query{Kind: api.IsTerm, Term: a.Term, Words: []string{}, Kids: []api.Query{}}, "t:a"},
	} {
		if s, e := query.Print(c.q); s != c.want || e != api.OK {
			t.Errorf("Print(%v) = %q, %v, want %q", c.q, s, e, c.want)
		}
	}
	for _, q := range queries() {
		if s, e := query.Print(q); s != text(q) || e != api.OK {
			t.Errorf("Print(%v) = %q, %v", q, s, e)
		}
	}
	for i, c := range append(wrong(), faults()...) {
		if s, e := query.Print(c.q); s != "" || e != c.e {
			t.Errorf("%d: %q, %v, want %v", i, s, e, c.e)
		}
	}
}

// text is a query's text, put together one by one.
func text(q api.Query) string {
	s := ""
	for _, kid := range q.Kids {
		s += " " + text(kid)
	}
	for _, w := range q.Words {
		s += " " + w
	}
	switch q.Kind {
	case api.IsTerm:
		return q.Term.Field + ":" + q.Term.Word
	case api.IsPhrase:
		return q.Term.Field + ":\"" + s[1:] + "\""
	}
	return "(" + []string{api.IsAnd: "and", api.IsOr: "or", api.IsNot: "not"}[q.Kind] + s + ")"
}

// P12.2, Same.
func TestSame(t *testing.T) {
	l := append(queries()[:120:120], api.Query{}, api.Query{Kind: 9}, api.Query{Kind: -1}, of(api.IsAnd), of(api.IsOr), phrase("t"), phrase("t", ""), phrase("t", "", ""), term("", "a"), term("a", ""), of(9, api.Query{}), of(9, api.Query{}, api.Query{}), api.Query{Kind: api.IsTerm, Term: api.Term{Field: "t", Word: "a"}, Words: []string{"a"}}, api.Query{Kind: api.IsTerm, Term: api.Term{Field: "t", Word: "a"}, Kids: []api.Query{term("t", "a")}}, phrase("t", "a b"), phrase("t", "a", "b "))
	for _, c := range wrong() {
		if c.e != api.ErrDeep {
			l = append(l, c.q)
		}
	}
	for i, a := range l {
		for j, b := range l {
			if query.Same(a, b) != equal(a, b) {
				t.Fatalf("%d, %d: Same(%v, %v) = %v", i, j, a, b, !equal(a, b))
			}
		}
	}
}

// P12.2, Same: nil and empty are one, at every depth; what is changed anywhere is not the same.
func TestSameDeep(t *testing.T) {
	pick := chance(122)
	for _, q := range queries() {
		c := clone(q)
		if !query.Same(q, c) || !query.Same(c, q) || !query.Same(q, q) {
			t.Fatalf("%v is not the same as itself", q)
		}
		at, all := pick(count(q)), []*api.Query{&c}
		for i := 0; i < len(all); i++ {
			for k := range all[i].Kids {
				all = append(all, &all[i].Kids[k])
			}
		}
		x := all[at]
		for _, change := range []func(){
			func() { x.Kind++ }, func() { x.Kind-- }, func() { x.Term.Field += "x" }, func() { x.Term.Word += "x" }, func() { x.Words = append(x.Words, "a") }, func() { x.Kids = append(x.Kids, term("t", "a")) },
			func() { x.Words = append([]string{""}, x.Words...) }, func() { x.Kids = append([]api.Query{{}}, x.Kids...) },
		} {
			was := *x
			change()
			if query.Same(q, c) || query.Same(c, q) {
				t.Fatalf("%v is the same as %v", q, c)
			}
			*x = was
		}
	}
	one, two := chain(term("t", "a"), 500000, api.IsNot), chain(term("t", "b"), 500000, api.IsNot)
	if !query.Same(one, one) || !query.Same(one, chain(term("t", "a"), 500000, api.IsNot)) || query.Same(one, two) || query.Same(one, one.Kids[0]) {
		t.Error("queries that are deep")
	}
}

// clone is the same query, in memory of its own, with empty lists where there are none.
func clone(q api.Query) api.Query {
	q.Words = append([]string{}, q.Words...)
	kids := []api.Query{}
	for _, kid := range q.Kids {
		kids = append(kids, clone(kid))
	}
	q.Kids = kids
	return q
}

// count is how many queries a query is of.
func count(q api.Query) int {
	n := 1
	for _, kid := range q.Kids {
		n += count(kid)
	}
	return n
}

// P12.2, Terms.
func TestTerms(t *testing.T) {
	x := func(l ...string) []api.Term {
		var terms []api.Term
		for i := 0; i < len(l); i += 2 {
			terms = append(terms, api.Term{Field: l[i], Word: l[i+1]})
		}
		return terms
	}
	a, b := term("t", "a"), term("t", "b")
	for _, c := range []struct {
		q    api.Query
		want []api.Term
	}{
		{a, x("t", "a")}, {phrase("t", "a"), x("t", "a")}, {phrase("t", "b", "a", "b"), x("t", "a", "t", "b")}, {of(api.IsNot, a), x("t", "a")}, {of(api.IsOr, b, a), x("t", "a", "t", "b")}, {of(api.IsOr, a, a, a), x("t", "a")},
		{of(api.IsAnd, term("ta", "a"), term("t", "z"), term("u", "0"), term("a", "t"), term("t", "ÿ"), term("t", "za")), x("a", "t", "t", "z", "t", "za", "t", "ÿ", "ta", "a", "u", "0")},
		{of(api.IsAnd, a, of(api.IsNot, phrase("u", "b", "a")), of(api.IsOr, term("u", "b"), of(api.IsNot, of(api.IsNot, term("t", "0"))))), x("t", "0", "t", "a", "u", "a", "u", "b")}, {full(8), x("t", "a")},
	} {
		if l := query.Terms(c.q); !slices.Equal(l, c.want) {
			t.Errorf("Terms(%v) = %v, want %v", c.q, l, c.want)
		}
	}
	for _, q := range queries() {
		if l := query.Terms(q); !slices.Equal(l, terms(nil, q)) {
			t.Errorf("Terms(%v) = %v", q, l)
		}
	}
}

// terms are a query's terms and these, found one by one, and put in their row one by one.
func terms(l []api.Term, q api.Query) []api.Term {
	own := slices.Clone(q.Words)
	if q.Kind == api.IsTerm {
		own = append(own, q.Term.Word)
	}
	for _, w := range own {
		i := 0
		for i < len(l) && l[i].Field+"\x00"+l[i].Word < q.Term.Field+"\x00"+w {
			i++
		}
		if x := (api.Term{Field: q.Term.Field, Word: w}); i == len(l) || l[i] != x {
			l = slices.Insert(l, i, x)
		}
	}
	for _, kid := range q.Kids {
		l = terms(l, kid)
	}
	return l
}

// docOf is a document of these names and texts, by turns.
func docOf(l ...string) api.Doc {
	d := api.Doc{Id: 7}
	for i := 0; i < len(l); i += 2 {
		d.Fields = append(d.Fields, api.Field{Name: l[i], Text: l[i+1]})
	}
	return d
}

// docs are documents that may be, of words that the queries ask for.
func docs() []api.Doc {
	l := []api.Doc{{}, docOf("t", ""), docOf("t", "a"), docOf("t", "b a b"), docOf("u", "a", "t", "b"), docOf("t", "A, b-c! a.b"), docOf("t", "a a a a"), docOf("u", "a b a b", "t", "x"), docOf("and", "or not", "or", "and"), docOf("t", strings.Repeat("a ", 500)), docOf("ta", "t a b ab", "t", strings.Repeat("x", 30)+" "+strings.Repeat("Ä", 15)+" 3PM ß")}
	pick := chance(123)
	for range 60 {
		d := api.Doc{Id: pick(9)}
		for _, name := range []string{"t", "u", "ta"}[pick(3):] {
			s := ""
			for range pick(14) {
				s += words()[pick(min(len(words()), 3+pick(4)))] + []string{" ", "  ", ".", "-"}[pick(4)]
			}
			d.Fields = append(d.Fields, api.Field{Name: name, Text: s})
		}
		l = append(l, d)
	}
	return l
}

// grade is whether a document fits, and how well, found in another way; it holds for the texts of these tests.
func grade(q api.Query, d api.Doc) (bool, int) {
	if q.Kind == api.IsTerm || q.Kind == api.IsPhrase {
		n := 0
		row := append(slices.Clone(q.Words), q.Term.Word)[:max(1, len(q.Words))]
		for _, f := range d.Fields {
			own := strings.FieldsFunc(strings.ToLower(f.Text), func(r rune) bool { return strings.ContainsRune(" .-,!", r) })
			for i := 0; f.Name == q.Term.Field && i+len(row) <= len(own); i++ {
				if slices.Equal(own[i:i+len(row)], row) {
					n++
				}
			}
		}
		return n > 0, n
	}
	fit, sum := 0, 0
	for _, kid := range q.Kids {
		if is, n := grade(kid, d); is {
			fit, sum = fit+1, sum+n
		}
	}
	switch {
	case q.Kind == api.IsAnd && fit == len(q.Kids), q.Kind == api.IsOr && fit > 0:
		return true, sum
	case q.Kind == api.IsNot && fit == 0:
		return true, 0
	}
	return false, 0
}

// P12.3: Fits and Score of a few; -1 is told here where the document does not fit.
func TestFitsAndScore(t *testing.T) {
	d := docOf("t", "A b a, c a b!", "u", "x a")
	for s, want := range map[string]int{
		"t:a": 3, "t:b": 2, "t:c": 1, "t:x": -1, "u:x": 1, "u:a": 1, "u:b": -1, "v:a": -1, "t:ab": -1,
		`t:"a"`: 3, `t:"a b"`: 2, `t:"b a"`: 1, `t:"a b a c a b"`: 1, `t:"c a"`: 1, `t:"a a"`: -1, `t:"b c"`: -1, `t:"x"`: -1, `u:"x a"`: 1, `u:"a b"`: -1, `v:"a b"`: -1, `t:"a b x"`: -1, `t:"b x"`: -1,
		"(and t:a)": 3, "(and t:a t:b)": 5, "(and t:a t:a)": 6, "(and t:a u:x t:c)": 5, "(and t:a t:x)": -1, "(and t:x t:a)": -1, "(and t:a u:b t:b)": -1, `(and t:"a b" u:a)`: 3,
		"(or t:a)": 3, "(or t:a t:b)": 5, "(or t:x t:a)": 3, "(or t:a t:x)": 3, "(or t:x u:b)": -1, "(or t:x)": -1, `(or t:x t:"b a")`: 1,
		"(not t:a)": -1, "(not t:x)": 0, "(not (not t:a))": 0, "(not (not t:x))": -1, "(not (or t:a t:x))": -1, "(not (or u:b t:x))": 0, "(not (and t:a t:x))": 0, `(not t:"a b")`: -1, `(not t:"a a")`: 0,
		"(and t:a (not t:x))": 3, "(and t:a (not t:b))": -1, "(or (not t:a) t:b)": 2, "(or (not t:x) t:b)": 2, "(or (not t:x) t:x)": 0, "(or (not t:a) t:x)": -1, "(and (not t:x) (not u:b))": 0, "(or (and t:a t:x) (and t:b t:c))": 3, "(or (and t:a t:x) t:c)": 1, "(and (or t:a t:x) (or t:x t:c))": 4,
	} {
		q, e := query.Parse(s)
		if e != api.OK || query.Fits(q, d) != (want >= 0) || query.Score(q, d) != max(want, 0) {
			t.Errorf("%s: %v, %v, %d, want %d", s, e, query.Fits(q, d), query.Score(q, d), want)
		}
	}
}

// P12.3: of all queries and documents, as they are found in another way.
func TestFitsAndScoreOfAll(t *testing.T) {
	many, l := 0, docs()
	for _, q := range queries() {
		if count(q) > 200 {
			continue
		}
		for _, d := range l {
			is, n := grade(q, d)
			if query.Fits(q, d) != is || query.Score(q, d) != n {
				t.Fatalf("%s of %q: %v, %d, want %v, %d", text(q), d.Fields, query.Fits(q, d), query.Score(q, d), is, n)
			}
			if n > 0 {
				many++
			}
		}
	}
	if many < 1000 {
		t.Errorf("only %d have a Score", many)
	}
	d := docOf("t", "a b a")
	for wide := 1; wide <= 8; wide++ {
		q := full(wide)
		if query.Fits(q, d) != true || query.Score(q, d) != 0 {
			t.Errorf("the full query, %d wide", wide)
		}
	}
}

// P12.4: what is printed is parsed as the same.
func TestPrintedIsParsed(t *testing.T) {
	pick := chance(124)
	l := queries()
	for range 3000 {
		l = append(l, some(pick, 1+pick(6)))
	}
	for _, q := range l {
		s, e := query.Print(q)
		p, f := query.Parse(s)
		if e != api.OK || f != api.OK || !query.Same(p, q) || !equal(p, q) {
			t.Fatalf("%q: %v, %v, %v", s, e, f, p)
		}
		if again, e := query.Print(p); again != s || e != api.OK {
			t.Fatalf("%q, then %q, %v", s, again, e)
		}
	}
}

// R1: of what may not be, however deep, and of a query that stands in itself, all calls end; what it says nothing of is zero.
func TestWrongEnds(t *testing.T) {
	l := append(wrong(), faults()...)
	for _, kind := range []int{api.IsAnd, api.IsOr, api.IsNot} {
		l = append(l, struct {
			q api.Query
			e api.Errno
		}{chain(term("t", "a"), 1000000, kind), api.ErrDeep})
	}
	for i, c := range l {
		for _, d := range []api.Doc{{}, docOf("t", "a a"), docOf("T", "A", "T", "a"), docOf("", "")} {
			if query.May(c.q) != c.e || len(query.Terms(c.q)) != 0 || query.Fits(c.q, d) || query.Score(c.q, d) != 0 {
				t.Fatalf("%d, which is told %v", i, c.e)
			}
		}
	}
	for _, d := range []api.Doc{{Fields: make([]api.Field, 20)}, docOf("t", "a", "t", "a"), docOf("t\x00a", "a"), docOf("t", strings.Repeat("x", 5000)+strings.Repeat(" a", 3000))} {
		for _, q := range queries()[:100] {
			if query.Score(q, d) > 0 && !query.Fits(q, d) {
				t.Fatalf("%s has a Score, and does not fit", text(q))
			}
		}
	}
}

// spoil changes a list, and what may stand behind it.
func spoil[V any](l []V, by V) {
	for i := range l {
		l[i] = by
	}
	_ = append(l, by, by)
	_ = append(l[:0], by)
}

// roomy is the same query, each list with room behind it; all gathers these lists, with their room.
func roomy(q api.Query, all *[]api.Query) api.Query {
	q.Words = append(slices.Clone(q.Words), "spare", "room")[:len(q.Words)]
	var kids []api.Query
	for _, kid := range q.Kids {
		kids = append(kids, roomy(kid, all))
	}
	q.Kids = append(kids, term("spare", "room"), api.Query{})[:len(kids)]
	*all = append(*all, api.Query{Words: q.Words[:len(q.Words)+2], Kids: q.Kids[:len(kids)+2]})
	return q
}

// R4: what is handed in is not changed, its spare room neither.
func TestHandedInStays(t *testing.T) {
	d := docOf("t", "a b a b", "u", "a")
	for _, q := range queries() {
		var all, was []api.Query
		in := roomy(q, &all)
		for _, x := range all {
			was = append(was, clone(x))
		}
		fields := append(slices.Clone(d.Fields), api.Field{Name: "spare"})
		own := api.Doc{Id: 7, Fields: fields[:2]}
		query.May(in)
		query.Print(in)
		query.Same(in, q)
		query.Same(q, in)
		query.Deep(in)
		query.Fits(in, own)
		query.Score(in, own)
		spoil(query.Terms(in), api.Term{Field: "spoilt"})
		for i, x := range all {
			if !equal(x, was[i]) {
				t.Fatalf("%s: %v has become %v", text(q), was[i], x)
			}
		}
		if !slices.Equal(fields, append(slices.Clone(d.Fields), api.Field{Name: "spare"})) {
			t.Fatalf("%v has become %v", d.Fields, fields)
		}
	}
}

// R4: no list that is answered shares memory with another one, nor with what was handed in.
func TestAnswersAreNew(t *testing.T) {
	for _, q := range queries() {
		if count(q) > 200 {
			continue
		}
		want := terms(nil, q)
		l, kept := query.Terms(q), query.Terms(q)
		spoil(l, api.Term{Field: "spoilt"})
		if !slices.Equal(kept, want) || !slices.Equal(query.Terms(q), want) {
			t.Fatalf("%s: Terms tells one memory twice", text(q))
		}
		s := text(q)
		for at := range count(q) {
			one, _ := query.Parse(s)
			two, _ := query.Parse(s)
			lists := []*api.Query{&one}
			for i := 0; i < len(lists); i++ {
				for k := range lists[i].Kids {
					lists = append(lists, &lists[i].Kids[k])
				}
			}
			x := lists[at]
			spoil(x.Words, "spoilt")
			spoil(x.Kids, api.Query{Kind: 99})
			x.Words, x.Kids = nil, nil
			for i, y := range lists {
				if i == at {
					continue
				}
				spoilt := slices.Contains(y.Words, "spoilt") || slices.ContainsFunc(y.Kids, func(k api.Query) bool { return k.Kind == 99 })
				if spoilt {
					t.Fatalf("%s: two lists of one answer share memory", s)
				}
			}
			if !equal(two, q) {
				t.Fatalf("%s: Parse tells one memory twice", s)
			}
		}
	}
}

// R5: what is told once is told each time.
func TestAsBefore(t *testing.T) {
	d := docOf("t", "a b a b", "u", "a")
	for i, q := range queries()[:200] {
		s, e := query.Print(q)
		p, f := query.Parse(s)
		l := query.Terms(q)
		for range 3 {
			s2, e2 := query.Print(q)
			p2, f2 := query.Parse(s)
			if s != s2 || e != e2 || f != f2 || !equal(p, p2) || !slices.Equal(l, query.Terms(q)) || query.Score(q, d) != query.Score(p, d) || query.Fits(q, d) != query.Fits(p, d) {
				t.Fatal(strconv.Itoa(i) + ": " + s)
			}
		}
	}
}
