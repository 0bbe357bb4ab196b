package posting_test

import (
	"bytes"
	"math"
	"slices"
	"strconv"
	"testing"

	"concordance/api"
	"concordance/posting"
)

const most = 1<<31 - 1 // the greatest Doc and place

// chance tells numbers that seem to come by chance, the same ones each time.
func chance(seed uint64) func(n int) int {
	return func(n int) int {
		seed = seed*6364136223846793005 + 1442695040888963407
		return int(seed>>33) % n
	}
}

// one is a posting.
func one(doc int, places ...int) api.Posting {
	return api.Posting{Doc: doc, Places: places}
}

// row is so many postings at all documents from one on.
func row(from, many int) []api.Posting {
	var l []api.Posting
	for i := range many {
		l = append(l, one(from+i, i%3))
	}
	return l
}

// lists are postings that may be: of all lengths about a block's, those at the edges, and some by chance.
func lists() [][]api.Posting {
	l := [][]api.Posting{
		nil, {},
		{one(0, 0)}, {one(1, 1)}, {one(3, 0, 2)}, {one(127, 127)}, {one(128, 128)}, {one(most, most)}, {one(0, 0, most)},
		{one(0, most)}, {one(most, 0)}, {one(most, most-1, most)}, {one(0, 0), one(most, most)}, {one(most-1, 5), one(most, 5)},
		{one(0, 9), one(1, 8), one(2, 7)}, {one(0, 1), one(128, 1)}, {one(0, 1), one(129, 1)}, {one(5, 0, 128, 257), one(300, 300)},
	}
	for many := 1; many < 42; many++ {
		l = append(l, row(0, many), row(300, many))
	}
	l = append(l, row(most-16, 17), append(row(0, 8), one(most, 1)), append(row(0, 7), one(most, 1)))
	pick := chance(51)
	for k := range 60 {
		var some []api.Posting
		doc := -1
		for range pick(70) {
			doc += 1 + pick(1<<(k%24))
			var places []int
			place := -1
			for range 1 + pick(6) {
				place += 1 + pick(1<<(k%27))
				places = append(places, place)
			}
			some = append(some, one(doc, places...))
		}
		l = append(l, some)
	}
	return l
}

// digits are a number's bytes, as chapter 4 tells them.
func digits(n int) []byte {
	if n < 128 {
		return []byte{byte(n)}
	}
	return append([]byte{byte(128 + n%128)}, digits(n/128)...)
}

// written is the bytes of postings as the document tells them.
func written(l []api.Posting) []byte {
	var b []byte
	for i, p := range l {
		more := p.Doc
		if i > 0 {
			more = p.Doc - l[i-1].Doc - 1
		}
		b = append(append(b, digits(more)...), digits(len(p.Places))...)
		for j, n := range p.Places {
			if j > 0 {
				n -= p.Places[j-1] + 1
			}
			b = append(b, digits(n)...)
		}
	}
	return b
}

// cut is postings in blocks of 8.
func cut(l []api.Posting) [][]api.Posting {
	var blocks [][]api.Posting
	for len(l) > 8 {
		blocks, l = append(blocks, l[:8]), l[8:]
	}
	if len(l) > 0 {
		blocks = append(blocks, l)
	}
	return blocks
}

func same(a, b []api.Posting) bool {
	return slices.EqualFunc(a, b, func(p, q api.Posting) bool { return p.Doc == q.Doc && slices.Equal(p.Places, q.Places) })
}

func clone(l []api.Posting) []api.Posting {
	var c []api.Posting
	for _, p := range l {
		c = append(c, one(p.Doc, slices.Clone(p.Places)...))
	}
	return c
}

// outside are numbers of blocks that a list of so many has not.
func outside(blocks int) []int {
	return []int{-1, -2, -8, math.MinInt32, math.MinInt, math.MinInt + 1, blocks, blocks + 1, blocks + 8, 1 << 31, 1 << 32, 1 << 60, 1 << 61, math.MaxInt}
}

// holds asks all that a list can be asked, against the postings that it is of.
func holds(t *testing.T, what string, l *posting.List, want []api.Posting) {
	t.Helper()
	total, blocks := 0, cut(want)
	for _, p := range want {
		total += len(p.Places)
	}
	if l.Len() != len(want) || l.Blocks() != len(blocks) || l.Total() != total {
		t.Fatalf("%s of %v: %d postings, %d blocks, %d places; want %d, %d, %d", what, want, l.Len(), l.Blocks(), l.Total(), len(want), len(blocks), total)
	}
	if b := l.Bytes(); !bytes.Equal(b, written(want)) {
		t.Fatalf("%s of %v: the bytes %v, want %v", what, want, b, written(want))
	}
	if all := l.All(); !same(all, want) {
		t.Fatalf("%s of %v: all are %v", what, want, all)
	}
	for k, block := range slices.Backward(blocks) {
		if b, last := l.Block(k), l.Last(k); !same(b, block) || last != block[len(block)-1].Doc {
			t.Fatalf("%s of %v: block %d is %v, its last one %d", what, want, k, b, last)
		}
	}
	for _, k := range outside(len(blocks)) {
		if len(l.Block(k)) != 0 || l.Last(k) != -1 {
			t.Fatalf("%s of %v: block %d is %v, its last one %d", what, want, k, l.Block(k), l.Last(k))
		}
	}
}

// made is a list of postings that may be.
func made(t *testing.T, want []api.Posting) *posting.List {
	t.Helper()
	l, e := posting.Make(want)
	if l == nil || e != api.OK || !posting.May(want) {
		t.Fatalf("Make(%v): %v; May: %v", want, e, posting.May(want))
	}
	return l
}

// The document's example.
func TestExample(t *testing.T) {
	want := []api.Posting{one(3, 0, 2)}
	l := made(t, want)
	if b := l.Bytes(); !bytes.Equal(b, []byte{3, 2, 0, 1}) {
		t.Errorf("the bytes %v", b)
	}
	r, e := posting.Read(1, []byte{3, 2, 0, 1})
	if e != api.OK {
		t.Fatal(e)
	}
	holds(t, "Read", r, want)
}

// P5.1, Bytes: some that are written out, over two blocks, too.
func TestBytes(t *testing.T) {
	for _, c := range []struct {
		l    []api.Posting
		want []byte
	}{
		{nil, nil},
		{[]api.Posting{one(0, 0)}, []byte{0, 1, 0}},
		{[]api.Posting{one(5, 1), one(6, 0, 1)}, []byte{5, 1, 1, 0, 2, 0, 0}},
		{[]api.Posting{one(300, 300), one(301, 4)}, []byte{172, 2, 1, 172, 2, 0, 1, 4}},
		{[]api.Posting{one(0, 7), one(129, 0, 129)}, []byte{0, 1, 7, 128, 1, 2, 0, 128, 1}},
		{[]api.Posting{one(most, most)}, []byte{255, 255, 255, 255, 7, 1, 255, 255, 255, 255, 7}},
		{append(row(2, 8), one(20, 3)), []byte{2, 1, 0, 0, 1, 1, 0, 1, 2, 0, 1, 0, 0, 1, 1, 0, 1, 2, 0, 1, 0, 0, 1, 1, 10, 1, 3}},
	} {
		if b := made(t, c.l).Bytes(); !bytes.Equal(b, c.want) {
			t.Errorf("of %v: %v, want %v", c.l, b, c.want)
		}
	}
}

// P5.1, P5.2, P5.3: what is made, and what is read of its bytes.
func TestMadeIsRead(t *testing.T) {
	for _, want := range lists() {
		l := made(t, want)
		holds(t, "Make", l, want)
		r, e := posting.Read(len(want), l.Bytes())
		if r == nil || e != api.OK {
			t.Fatalf("Read of the bytes of %v: %v", want, e)
		}
		holds(t, "Read", r, want)
	}
}

// P5.1, P5.3: a long list, each block by itself, the last one first.
func TestLong(t *testing.T) {
	var want []api.Posting
	for i := range 100003 {
		want = append(want, one(7*i+i%5, i%50, 50+i%900))
	}
	l := made(t, want)
	r, e := posting.Read(len(want), l.Bytes())
	if e != api.OK {
		t.Fatal(e)
	}
	holds(t, "Make", l, want)
	holds(t, "Read", r, want)
}

// wrong are postings that may not be by themselves.
func wrong() []api.Posting {
	return []api.Posting{
		{}, one(5), {Doc: 5, Places: []int{}}, one(-1, 0), one(-5, 1, 2), one(math.MinInt, 0), one(most+1, 0), one(1<<32, 0), one(math.MaxInt, 0),
		one(5, -1), one(5, -1, 0), one(5, math.MinInt), one(5, math.MinInt, math.MaxInt), one(5, most+1), one(5, 0, most+1), one(5, 1<<32), one(5, math.MaxInt),
		one(5, 0, 0), one(5, 1, 1), one(5, 2, 1), one(5, 1, 0), one(5, 0, -1), one(5, 0, 1, 2, 2), one(5, 0, 1, 2, 1), one(5, 0, 0, 1, 2), one(5, 3, 2, 9), one(5, most, most), one(5, most, 0),
	}
}

func refused(t *testing.T, l []api.Posting) {
	t.Helper()
	if r, e := posting.Make(l); r != nil || e != api.ErrArg || posting.May(l) {
		t.Errorf("%v: Make tells %v, May %v", l, e, posting.May(l))
	}
}

// P5.1, May and Make: a posting that may not be, wherever it stands.
func TestWrongPosting(t *testing.T) {
	for _, p := range wrong() {
		refused(t, []api.Posting{p})
		refused(t, []api.Posting{one(0, 0), p})
		refused(t, []api.Posting{p, one(10, 0)})
		for at := range 20 {
			l := row(0, 20)
			q := p
			if q.Doc == 5 {
				q.Doc = at
			}
			l[at] = q
			refused(t, l)
		}
	}
}

// P5.1, May and Make: documents that do not rise.
func TestDocsRise(t *testing.T) {
	for _, docs := range [][]int{{0, 0}, {1, 1}, {1, 0}, {5, 4, 6}, {0, 1, 1}, {0, 1, 0}, {most, most}, {most, 0}, {3, 2, 1}, {0, 2, 1, 3}, {0, -1}, {-2, -1}, {0, most + 1}} {
		var l []api.Posting
		for _, doc := range docs {
			l = append(l, one(doc, 0))
		}
		refused(t, l)
	}
	for at := 1; at < 33; at++ {
		for _, less := range []int{1, 2, 9} {
			l := row(100, 33)
			l[at].Doc -= less
			refused(t, l)
		}
	}
}

func unread(t *testing.T, many int, b []byte) {
	t.Helper()
	if l, e := posting.Read(many, b); l != nil || e != api.ErrForm {
		t.Errorf("Read(%d, %v): %v", many, b, e)
	}
}

// P5.2: bytes of another count, cut off, or with more behind.
func TestReadOfOtherBytes(t *testing.T) {
	for _, l := range lists() {
		b := written(l)
		for _, many := range []int{len(l) - 1, len(l) + 1, len(l) + 8, len(l) - 8, -len(l) - 1, -1, math.MinInt, 1 << 31, 1 << 62, math.MaxInt - 7, math.MaxInt} {
			unread(t, many, b)
		}
		for k := range min(len(b), 300) {
			unread(t, len(l), b[:k])
			unread(t, len(l), b[:len(b)-1-k])
		}
		for _, c := range []byte{0, 1, 128, 255} {
			unread(t, len(l), append(slices.Clone(b), c))
		}
	}
	for _, many := range []int{-1, -8, math.MinInt} {
		unread(t, many, nil)
		unread(t, many, []byte{})
		unread(t, many, []byte{3, 2, 0, 1})
	}
}

// P5.2: bytes of postings that may not be, or that Bytes never has, in the first block and behind.
func TestReadOfWrongForm(t *testing.T) {
	top := func(n int) []byte { return append(digits(n), 1, 0) }
	for _, b := range [][]byte{
		{}, {0}, {3, 0}, {0, 0}, {3, 1}, {3, 2, 0}, {3, 1, 128}, {128, 1, 0}, {128, 0, 1, 0}, {131, 0, 1, 0}, {3, 129, 0, 5}, {3, 1, 133, 0},
		top(most + 1), top(1 << 32), top(1 << 62), top(math.MaxInt - 1), top(math.MaxInt),
		append([]byte{3, 1}, digits(most+1)...), append([]byte{3, 1}, digits(1<<32)...), append([]byte{3, 1}, digits(1<<62)...), append([]byte{3, 1}, digits(math.MaxInt)...),
		append([]byte{3, 2, 0}, digits(most)...), append([]byte{3, 2, 5}, digits(math.MaxInt)...), append([]byte{3, 2}, append(digits(most), 0)...),
		append([]byte{3}, digits(1<<40)...), append(append([]byte{3}, digits(math.MaxInt)...), 1, 2, 3),
		append(bytes.Repeat([]byte{255}, 9), 1, 1, 0), bytes.Repeat([]byte{255}, 30),
	} {
		for _, many := range []int{0, 1, 7, 8, 9, 16, 20} {
			ahead := row(0, many)
			unread(t, many+1, append(written(ahead), b...))
			if len(b) > 0 {
				unread(t, many, append(written(ahead), b...))
			}
		}
	}
	for _, many := range []int{0, 1, 7, 8, 9, 16} {
		ahead := written(row(0, many))
		if l, e := posting.Read(many+1, slices.Concat(ahead, top(most-many))); e != api.OK || l.Last(l.Blocks()-1) != most {
			t.Errorf("the greatest document behind %d: %v", many, e)
		}
		unread(t, many+1, slices.Concat(ahead, top(most-many+1)))
		unread(t, many+2, slices.Concat(ahead, top(most-many), []byte{0, 1, 0}))
		if l, e := posting.Read(many+1, slices.Concat(ahead, []byte{0, 2, 0}, digits(most-1))); e != api.OK || !slices.Equal(l.All()[many].Places, []int{0, most}) {
			t.Errorf("the greatest place behind %d: %v", many, e)
		}
	}
}

// small are all postings behind a document whose bytes are at most so many, each number in them below 4.
func small(last, room int, tell func(p api.Posting, size int)) {
	for more := range 4 {
		for count := 1; count < 4 && count+2 <= room; count++ {
			for n := range 1 << (2 * count) {
				p := api.Posting{Doc: last + 1 + more}
				place := -1
				for i := range count {
					place += 1 + n>>(2*i)&3
					p.Places = append(p.Places, place)
				}
				tell(p, count+2)
			}
		}
	}
}

// grow tells all lists of such postings.
func grow(l []api.Posting, room int, tell func(l []api.Posting)) {
	tell(l)
	last := -1
	if len(l) > 0 {
		last = l[len(l)-1].Doc
	}
	small(last, room, func(p api.Posting, size int) {
		grow(append(slices.Clone(l), p), room-size, tell)
	})
}

// key is a count and bytes.
func key(many int, b []byte) string {
	return strconv.Itoa(many) + " " + string(b)
}

// P5.2: all bytes up to seven of the numbers 0 to 3, against the lists that have such.
func TestReadOfAll(t *testing.T) {
	const long = 7
	have := map[string][]api.Posting{}
	grow(nil, long, func(l []api.Posting) { have[key(len(l), written(l))] = l })
	read := 0
	for size := range long + 1 {
		for n := range 1 << (2 * size) {
			b := make([]byte, size)
			for i := range b {
				b[i] = byte(n >> (2 * i) & 3)
			}
			for many := -1; many < 4; many++ {
				want, is := have[key(many, b)]
				l, e := posting.Read(many, b)
				if is != (e == api.OK) || is != (l != nil) || !is && e != api.ErrForm {
					t.Fatalf("Read(%d, %v): %v, want %v", many, b, e, want)
				}
				if is {
					read++
					holds(t, "Read", l, want)
				}
			}
		}
	}
	if read != len(have) || read < 1000 {
		t.Errorf("of %d lists %d were read", len(have), read)
	}
}

// P5.2: bytes by chance are read as what has the same bytes, or not at all.
func TestReadByChance(t *testing.T) {
	pick := chance(52)
	read := 0
	for range 200000 {
		b := make([]byte, pick(40))
		for i := range b {
			if b[i] = byte(pick(3)); pick(20) == 0 {
				b[i] = byte(pick(256))
			}
		}
		many := pick(13)
		l, e := posting.Read(many, b)
		if e == api.OK {
			read++
			all := l.All()
			if len(all) != many || !posting.May(all) || !bytes.Equal(written(all), b) {
				t.Fatalf("Read(%d, %v): %v", many, b, all)
			}
			holds(t, "by chance", l, all)
		} else if l != nil || e != api.ErrForm {
			t.Fatalf("Read(%d, %v): %v", many, b, e)
		}
	}
	if read < 1000 {
		t.Errorf("only %d were read", read)
	}
}

// R4: what is handed in is not kept: a list is the same, whatever becomes of it.
func TestNothingIsKept(t *testing.T) {
	want := lists()[50]
	own := clone(want)
	l := made(t, own)
	for i := range own {
		for j := range own[i].Places {
			own[i].Places[j] = 77
		}
		own[i] = one(0, 0)
	}
	holds(t, "Make", l, want)
	b := written(want)
	r, e := posting.Read(len(want), b)
	if e != api.OK {
		t.Fatal(e)
	}
	for i := range b {
		b[i] = 255
	}
	holds(t, "Read", r, want)
}

// R4: neither what is handed in is changed, nor its spare room, nor is that read.
func TestNothingIsChanged(t *testing.T) {
	room := append(row(0, 20), one(3, 3))
	keep := clone(room)
	for many := range 20 {
		l := made(t, room[:many])
		holds(t, "with spare room", l, keep[:many])
		b := append(written(keep[:many]), 0, 1, 0, 200)
		whole := slices.Clone(b)
		r, e := posting.Read(many, b[:len(b)-4])
		if e != api.OK || !bytes.Equal(b, whole) || !same(room, keep) {
			t.Fatalf("of %d: %v, %v, %v", many, e, b, room)
		}
		holds(t, "Read, with spare room", r, keep[:many])
		unread(t, many+1, b[:len(b)-4])
	}
}

// spoil changes all of an answer, and what may stand behind its lists.
func spoil(l []api.Posting) {
	for i, p := range l {
		for j := range p.Places {
			p.Places[j] = 99
		}
		l[i].Places = append(p.Places, 98, 97)
		l[i].Doc = 96
	}
	_ = append(l, one(95, 94))
	_ = append(l[:0], one(93, 92))
}

// R4: what is answered is new memory, at every depth, and no two lists in it share any.
func TestAnswersAreNew(t *testing.T) {
	want := row(4, 30)
	for i := range want {
		want[i].Places = []int{i, i + 1, i + 5}
	}
	m := made(t, want)
	r, e := posting.Read(len(want), m.Bytes())
	if e != api.OK {
		t.Fatal(e)
	}
	for _, l := range []*posting.List{m, r} {
		all, block, b := l.All(), l.Block(1), l.Bytes()
		spoil(l.All())
		spoil(l.Block(1))
		other := l.Bytes()
		for i := range other {
			other[i] = 91
		}
		if !same(all, want) || !same(block, want[8:16]) || !bytes.Equal(b, written(want)) {
			t.Error("one memory twice")
		}
		for i := range all {
			_ = append(all[i].Places, 89, 88)
		}
		if !same(all, want) {
			t.Error("two lists of one answer share memory")
		}
		holds(t, "spoiled", l, want)
	}
}
