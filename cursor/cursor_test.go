package cursor_test

import (
	"bytes"
	"iter"
	"math"
	"slices"
	"testing"

	"concordance/api"
	"concordance/cursor"
	"concordance/posting"
)

const most = 1<<31 - 1 // the greatest Doc and place

// chance tells numbers that seem to come by chance, the same ones each time.
func chance(seed uint64) func(n int) int {
	return func(n int) int {
		seed = seed*6364136223846793005 + 1442695040888963407
		return int(seed>>33) % n
	}
}

// at are postings at documents, each with one to three places of its own.
func at(docs ...int) []api.Posting {
	var l []api.Posting
	for i, doc := range docs {
		p := api.Posting{Doc: doc}
		for k := range 1 + i%3 {
			p.Places = append(p.Places, i+10*k)
		}
		l = append(l, p)
	}
	return l
}

// row are so many documents from one on, each so much more than the one ahead.
func row(from, step, many int) []int {
	var docs []int
	for i := range many {
		docs = append(docs, from+step*i)
	}
	return docs
}

// some are documents by chance, fewer than so many, each at most so much more than the one ahead.
func some(pick func(n int) int, many, step int) []int {
	var docs []int
	doc := -1
	for range pick(many) {
		doc += 1 + pick(step)
		docs = append(docs, doc)
	}
	return docs
}

func docsOf(l []api.Posting) []int {
	var docs []int
	for _, p := range l {
		docs = append(docs, p.Doc)
	}
	return docs
}

// lists are postings of all lengths about a block's, at the edges, and some by chance.
func lists() [][]api.Posting {
	l := [][]api.Posting{nil, at(0), at(1), at(5), at(most), at(0, most), at(most-1, most), at(1, 5, 9), at(append(row(0, 1, 8), most)...), at(append(row(0, 1, 7), most)...)}
	for many := 1; many < 35; many++ {
		l = append(l, at(row(0, 1, many)...), at(row(3, 2, many)...), at(row(most-5*(many-1), 5, many)...))
	}
	pick := chance(61)
	for range 40 {
		l = append(l, at(some(pick, 60, 9)...))
	}
	return l
}

func made(t *testing.T, l []api.Posting) *posting.List {
	t.Helper()
	m, e := posting.Make(l)
	if e != api.OK {
		t.Fatal(e)
	}
	return m
}

// walk is what a cursor must do, as the document tells it, posting by posting.
type walk struct {
	l    []api.Posting
	i    int // the posting it stands at; -1 ahead of all, as many as there are behind all
	read int // the block that was read last
	many int // blocks were read
}

func begin(l []api.Posting) *walk {
	return &walk{l: l, i: -1, read: -1}
}

func (w *walk) doc() int {
	if w.i < 0 {
		return -1
	}
	if w.i == len(w.l) {
		return 1 << 31
	}
	return w.l[w.i].Doc
}

func (w *walk) places() []int {
	if w.i < 0 || w.i == len(w.l) {
		return nil
	}
	return w.l[w.i].Places
}

// note counts the block that it came to.
func (w *walk) note() {
	if w.i >= 0 && w.i < len(w.l) && w.i/8 != w.read {
		w.read = w.i / 8
		w.many++
	}
}

func (w *walk) next() {
	w.i = min(w.i+1, len(w.l))
	w.note()
}

func (w *walk) advance(doc int) {
	for w.doc() < doc && w.i < len(w.l) {
		w.i++
	}
	w.note()
}

// stands asks all that a cursor can be asked where it stands, twice, as nothing changes by it.
func stands(t *testing.T, c *cursor.Cursor, w *walk) {
	t.Helper()
	for range 2 {
		if c.Doc() != w.doc() || c.Count() != len(w.places()) || !slices.Equal(c.Places(), w.places()) || c.Reads() != w.many {
			t.Fatalf("of %v at %d: document %d, %d places %v, %d reads; want %d, %v, %d", docsOf(w.l), w.i, c.Doc(), c.Count(), c.Places(), c.Reads(), w.doc(), w.places(), w.many)
		}
	}
}

func next(t *testing.T, c *cursor.Cursor, w *walk) {
	t.Helper()
	w.next()
	if doc := c.Next(); doc != w.doc() {
		t.Fatalf("of %v: Next tells %d, want %d", docsOf(w.l), doc, w.doc())
	}
	stands(t, c, w)
}

func advance(t *testing.T, c *cursor.Cursor, w *walk, to int) {
	t.Helper()
	w.advance(to)
	if doc := c.Advance(to); doc != w.doc() {
		t.Fatalf("of %v: Advance(%d) tells %d, want %d", docsOf(w.l), to, doc, w.doc())
	}
	stands(t, c, w)
}

// both are a cursor of a list, and what it must do.
func both(t *testing.T, l []api.Posting) (*cursor.Cursor, *walk) {
	t.Helper()
	return cursor.New(made(t, l)), begin(l)
}

// targets are numbers about each document, and at the edges.
func targets(l []api.Posting) []int {
	n := []int{math.MinInt, math.MinInt + 1, -1 << 31, -2, -1, 0, 1, most - 1, most, most + 1, most + 2, 1 << 32, 1<<32 + 5, math.MaxInt - 1, math.MaxInt}
	for _, p := range l {
		n = append(n, p.Doc-1, p.Doc, p.Doc+1)
	}
	slices.Sort(n)
	return slices.Compact(n)
}

// The document's example.
func TestExample(t *testing.T) {
	c := cursor.New(made(t, at(1, 5, 9)))
	told := []int{c.Advance(4), c.Advance(2), c.Next(), c.Next()}
	if cursor.End != 1<<31 || !slices.Equal(told, []int{5, 5, 9, cursor.End}) {
		t.Error(told)
	}
}

// P6.1, New: ahead of all, where a number below 0 lets it stay.
func TestAheadOfAll(t *testing.T) {
	for _, l := range lists() {
		c, w := both(t, l)
		stands(t, c, w)
		for _, to := range []int{-1, -2, -8, math.MinInt32, math.MinInt} {
			if c.Advance(to) != -1 || c.Doc() != -1 || c.Count() != 0 || len(c.Places()) != 0 || c.Reads() != 0 {
				t.Fatalf("of %v: Advance(%d) goes to %d", docsOf(l), to, c.Doc())
			}
		}
		next(t, c, w)
	}
}

// P6.1, P6.2: Next goes through all, each block is read once, and behind all it stays.
func TestNext(t *testing.T) {
	for _, l := range lists() {
		c, w := both(t, l)
		for i, p := range l {
			if doc := c.Next(); doc != p.Doc || c.Doc() != doc || !slices.Equal(c.Places(), p.Places) || c.Count() != len(p.Places) || c.Reads() != i/8+1 {
				t.Fatalf("of %v: at %d, %d reads, want %d", docsOf(l), doc, c.Reads(), p.Doc)
			}
			w.next()
			stands(t, c, w)
		}
		for range 3 {
			next(t, c, w)
			if c.Doc() != 1<<31 || c.Count() != 0 || len(c.Places()) != 0 || c.Reads() != (len(l)+7)/8 {
				t.Fatalf("of %v: behind all it stands at %d, %d reads", docsOf(l), c.Doc(), c.Reads())
			}
		}
	}
}

// P6.1, P6.2: Advance from each posting, and from ahead of all and behind all, to each number about the documents.
func TestAdvance(t *testing.T) {
	for _, l := range lists() {
		m := made(t, l)
		for from := range len(l) + 2 {
			for _, to := range targets(l) {
				c, w := cursor.New(m), begin(l)
				for range from {
					c.Next()
					w.next()
				}
				stands(t, c, w)
				advance(t, c, w, to)
				advance(t, c, w, to)
				next(t, c, w)
			}
		}
	}
}

// P6.1, P6.2: Advance behind Advance.
func TestAdvanceTwice(t *testing.T) {
	for _, l := range [][]api.Posting{nil, at(4), at(row(0, 1, 8)...), at(row(0, 2, 9)...), at(row(1, 3, 26)...), at(append(row(0, 1, 16), most)...)} {
		for _, first := range targets(l) {
			for _, second := range targets(l) {
				c, w := both(t, l)
				advance(t, c, w, first)
				advance(t, c, w, second)
				next(t, c, w)
				advance(t, c, w, second+7)
			}
		}
	}
}

// P6.2: a leap over many blocks reads one; to behind all, back, and within a block none.
func TestReads(t *testing.T) {
	l := made(t, at(row(0, 10, 1000)...))
	c := cursor.New(l)
	for _, step := range []struct{ to, doc, reads int }{
		{-1, -1, 0}, {0, 0, 1}, {0, 0, 1}, {65, 70, 1}, {70, 70, 1}, {71, 80, 2}, {5, 80, 2}, {150, 150, 2}, {151, 160, 3},
		{8000, 8000, 4}, {8070, 8070, 4}, {160, 8070, 4}, {9985, 9990, 5}, {9990, 9990, 5}, {9991, cursor.End, 5}, {0, cursor.End, 5}, {math.MaxInt, cursor.End, 5},
	} {
		if doc := c.Advance(step.to); doc != step.doc || c.Reads() != step.reads {
			t.Errorf("Advance(%d): %d, %d reads; want %d, %d", step.to, doc, c.Reads(), step.doc, step.reads)
		}
	}
	for _, to := range []int{9991, cursor.End, cursor.End + 1, math.MaxInt} {
		d := cursor.New(l)
		if d.Advance(to) != cursor.End || d.Reads() != 0 || d.Next() != cursor.End || d.Reads() != 0 {
			t.Errorf("Advance(%d): %d reads", to, d.Reads())
		}
	}
}

// P6.1, P6.2: the greatest document is not behind all.
func TestGreatest(t *testing.T) {
	for many := 1; many < 20; many++ {
		l := at(append(row(0, 1, many-1), most)...)
		c, w := both(t, l)
		advance(t, c, w, most)
		if c.Doc() != most || c.Count() == 0 || c.Reads() != 1 {
			t.Errorf("of %d: %d", many, c.Doc())
		}
		advance(t, c, w, cursor.End)
		if c.Doc() != cursor.End || c.Count() != 0 || c.Reads() != 1 {
			t.Errorf("of %d: %d", many, c.Doc())
		}
	}
}

// P6.1: a list without postings, and nil.
func TestNone(t *testing.T) {
	for _, l := range []*posting.List{nil, made(t, nil)} {
		w := begin(nil)
		c := cursor.New(l)
		stands(t, c, w)
		advance(t, c, w, -1)
		advance(t, c, w, math.MinInt)
		next(t, c, w)
		for _, to := range []int{0, -1, 5, cursor.End, math.MaxInt, math.MinInt} {
			advance(t, c, w, to)
			d := cursor.New(l)
			advance(t, d, begin(nil), to)
		}
		if c.Doc() != cursor.End || c.Reads() != 0 {
			t.Error(c.Doc(), c.Reads())
		}
	}
}

// P6.1, P6.2: Next and Advance by turns, by chance.
func TestByChance(t *testing.T) {
	pick := chance(62)
	for range 3000 {
		step := 1 + pick(30)
		l := at(some(pick, 120, step)...)
		c, w := both(t, l)
		for range 40 {
			if pick(2) == 0 {
				next(t, c, w)
			} else {
				advance(t, c, w, max(w.doc(), 0)+pick(step*20)-step*4)
			}
		}
	}
}

// P6.4: Advance leads where Nexts lead.
func TestAdvanceIsNexts(t *testing.T) {
	for _, l := range lists() {
		m := made(t, l)
		for from := range len(l) + 1 {
			for _, to := range targets(l) {
				a, b := cursor.New(m), cursor.New(m)
				for range from {
					a.Next()
					b.Next()
				}
				a.Advance(to)
				for b.Doc() < to && b.Doc() != cursor.End {
					b.Next()
				}
				if a.Doc() != b.Doc() || a.Count() != b.Count() || !slices.Equal(a.Places(), b.Places()) || a.Reads() > b.Reads() {
					t.Fatalf("of %v, %d behind %d Nexts: %d with %d reads, %d with %d", docsOf(l), to, from, a.Doc(), a.Reads(), b.Doc(), b.Reads())
				}
			}
		}
	}
}

// R5: cursors of one list do not hang on each other.
func TestSideBySide(t *testing.T) {
	l := at(row(2, 3, 50)...)
	m := made(t, l)
	pick := chance(63)
	var cs []*cursor.Cursor
	var ws []*walk
	for range 5 {
		cs, ws = append(cs, cursor.New(m)), append(ws, begin(l))
	}
	for range 500 {
		k := pick(5)
		if pick(3) == 0 {
			advance(t, cs[k], ws[k], ws[k].doc()+pick(40))
		} else {
			next(t, cs[k], ws[k])
		}
		if pick(40) == 0 {
			cs[k], ws[k] = cursor.New(m), begin(l)
		}
		for i := range cs {
			stands(t, cs[i], ws[i])
		}
	}
}

// gathered is what is told two by two, so many at most.
func gathered(all iter.Seq2[int, []int], many int) []api.Posting {
	var l []api.Posting
	if many == 0 {
		return l
	}
	for doc, places := range all {
		l = append(l, api.Posting{Doc: doc, Places: places})
		if len(l) == many {
			break
		}
	}
	return l
}

func same(a, b []api.Posting) bool {
	return slices.EqualFunc(a, b, func(p, q api.Posting) bool { return p.Doc == q.Doc && slices.Equal(p.Places, q.Places) })
}

// P6.3, All: all of it, left early, and once more.
func TestAll(t *testing.T) {
	for _, l := range lists() {
		all := cursor.All(made(t, l))
		for range 2 {
			for many := range len(l) + 1 {
				if got := gathered(all, many); !same(got, l[:many]) {
					t.Fatalf("of %v the first %d: %v", docsOf(l), many, got)
				}
			}
			if got := gathered(all, len(l)+1); !same(got, l) {
				t.Fatalf("of %v: %v", docsOf(l), got)
			}
		}
	}
	for doc, places := range cursor.All(nil) {
		t.Error(doc, places)
	}
}

// P6.3, All: one inside the other.
func TestAllInside(t *testing.T) {
	l := at(row(1, 4, 19)...)
	all := cursor.All(made(t, l))
	i := 0
	for doc, places := range all {
		if doc != l[i].Doc || !slices.Equal(places, l[i].Places) {
			t.Fatal(doc, places)
		}
		if got := gathered(all, i); !same(got, l[:i]) {
			t.Fatal(got)
		}
		i++
	}
	if i != len(l) {
		t.Error(i)
	}
}

// common are the documents of both lists, told one by one.
func common(a, b []api.Posting) []int {
	var docs []int
	for _, p := range a {
		if slices.Contains(docsOf(b), p.Doc) {
			docs = append(docs, p.Doc)
		}
	}
	return docs
}

func meet(t *testing.T, a, b []api.Posting) {
	t.Helper()
	l, m := made(t, a), made(t, b)
	if got, want := cursor.Both(cursor.New(l), cursor.New(m)), common(a, b); !slices.Equal(got, want) {
		t.Fatalf("of %v and %v: %v, want %v", docsOf(a), docsOf(b), got, want)
	}
}

// P6.3, Both: all pairs of the documents 0 to 5, of the lists, and by chance.
func TestBoth(t *testing.T) {
	var sets [][]api.Posting
	for n := range 64 {
		var docs []int
		for i := range 6 {
			if n>>i&1 == 1 {
				docs = append(docs, i)
			}
		}
		sets = append(sets, at(docs...))
	}
	for _, a := range sets {
		for _, b := range sets {
			meet(t, a, b)
		}
	}
	for _, a := range lists() {
		for _, b := range lists() {
			meet(t, a, b)
		}
	}
	pick := chance(64)
	for range 1000 {
		meet(t, at(some(pick, 200, 1+pick(6))...), at(some(pick, 200, 1+pick(40))...))
	}
}

// P6.3, Both: of lists without postings, and of the greatest documents.
func TestBothEdges(t *testing.T) {
	m := made(t, at(3, 20, most))
	for _, l := range []*posting.List{nil, made(t, nil)} {
		if x := cursor.Both(cursor.New(l), cursor.New(m)); len(x) != 0 {
			t.Error(x)
		}
		if x := cursor.Both(cursor.New(m), cursor.New(l)); len(x) != 0 {
			t.Error(x)
		}
		if x := cursor.Both(cursor.New(l), cursor.New(l)); len(x) != 0 {
			t.Error(x)
		}
	}
	if x := cursor.Both(cursor.New(m), cursor.New(made(t, at(0, 20, most)))); !slices.Equal(x, []int{20, most}) {
		t.Error(x)
	}
	if x := cursor.Both(cursor.New(m), cursor.New(m)); !slices.Equal(x, []int{3, 20, most}) {
		t.Error(x)
	}
}

// P6.3, Both: what is no pair of cursors ahead of all does no harm, and ends.
func TestBothOfOthers(t *testing.T) {
	m := made(t, at(row(0, 1, 20)...))
	c := cursor.New(m)
	if x := cursor.Both(c, c); !slices.Equal(x, row(0, 1, 20)) {
		t.Error(x)
	}
	if cursor.Both(c, c) != nil || cursor.Both(c, cursor.New(m)) != nil || cursor.Both(cursor.New(m), c) != nil {
		t.Error("behind all")
	}
	if cursor.Both(nil, nil) != nil || cursor.Both(cursor.New(m), nil) != nil || cursor.Both(nil, cursor.New(m)) != nil {
		t.Error("nil")
	}
}

// P6.3, P6.2: where one list has few documents, few blocks of the other one are read.
func TestBothLeaps(t *testing.T) {
	long, few := made(t, at(row(0, 1, 4000)...)), made(t, at(5, 1700, 3999, 9000))
	for _, turn := range []bool{false, true} {
		a, b := cursor.New(long), cursor.New(few)
		var x []int
		if turn {
			x = cursor.Both(b, a)
		} else {
			x = cursor.Both(a, b)
		}
		if !slices.Equal(x, []int{5, 1700, 3999}) || a.Reads() > 4 || b.Reads() != 1 {
			t.Error(x, a.Reads(), b.Reads())
		}
	}
}

// spoil changes a list, and what may stand behind it.
func spoil(l []int) {
	for i := range l {
		l[i] = 77
	}
	_ = append(l, 78, 79)
	_ = append(l[:0], 76)
}

// R4: what is answered is new memory, and nothing that is handed in is changed.
func TestAnswersAreNew(t *testing.T) {
	l := at(row(4, 3, 20)...)
	m := made(t, l)
	b := m.Bytes()
	c, w := both(t, l)
	for range l {
		next(t, c, w)
		keep := c.Places()
		spoil(c.Places())
		if !slices.Equal(keep, w.places()) {
			t.Fatal("one memory twice")
		}
		stands(t, c, w)
	}
	all := gathered(cursor.All(m), -1)
	for _, places := range cursor.All(m) {
		spoil(places)
	}
	for i := range all {
		_ = append(all[i].Places, 80, 81)
	}
	if !same(all, l) || !same(gathered(cursor.All(m), -1), l) {
		t.Error("All tells one memory twice")
	}
	x := cursor.Both(cursor.New(m), cursor.New(m))
	spoil(cursor.Both(cursor.New(m), cursor.New(m)))
	if !slices.Equal(x, docsOf(l)) || !bytes.Equal(m.Bytes(), b) || !same(m.All(), l) {
		t.Error("a list was changed")
	}
}

// P6.1, P6.2: a long list, with leaps of all widths.
func TestLong(t *testing.T) {
	const many = 200000
	m := made(t, at(row(0, 3, many)...))
	for _, step := range []int{1, 3, 24, 25, 1000, 99999} {
		c := cursor.New(m)
		reads, block := 0, -1
		for to := 0; to <= 3*(many-1); to += step {
			at := (to + 2) / 3
			if at/8 != block {
				block = at / 8
				reads++
			}
			if doc := c.Advance(to); doc != 3*at || c.Reads() != reads {
				t.Fatalf("Advance(%d): %d, %d reads, want %d", to, doc, c.Reads(), reads)
			}
		}
	}
}
