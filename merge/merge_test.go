package merge_test

import (
	"cmp"
	"fmt"
	"math"
	"slices"
	"strconv"
	"strings"
	"testing"

	"concordance/api"
	"concordance/bits"
	"concordance/merge"
	"concordance/segment"
)

// chance tells numbers that seem to come by chance, the same ones each time.
func chance(seed uint64) func(n int) int {
	return func(n int) int {
		seed = seed*6364136223846793005 + 1442695040888963407
		return int(seed>>33) % n
	}
}

// of is an entry of a number, and of a document of these names and texts, by turns.
func of(seq int, l ...string) api.Entry {
	e := api.Entry{Doc: api.Doc{Id: 100 - seq}, Seq: seq}
	for i := 0; i < len(l); i += 2 {
		e.Doc.Fields = append(e.Doc.Fields, api.Field{Name: l[i], Text: l[i+1]})
	}
	return e
}

// some is an entry by chance: a few words that stand often, and at times one that stands nowhere else.
func some(seq int, pick func(n int) int) api.Entry {
	e := api.Entry{Doc: api.Doc{Id: pick(9) - 4}, Seq: seq}
	for _, name := range []string{"t", "ta", "u"}[pick(4)%3:] {
		text := ""
		for range pick(12) {
			text += " " + []string{"a", "b", "c", "ab", "B", "1", ".", "x" + strconv.Itoa(seq)}[pick(8)]
		}
		e.Doc.Fields = append(e.Doc.Fields, api.Field{Name: name, Text: text})
	}
	return e
}

func one(doc int, places ...int) api.Posting {
	return api.Posting{Doc: doc, Places: places}
}

func built(t *testing.T, l []api.Entry) *segment.Segment {
	t.Helper()
	s, e := segment.Build(l)
	if e != api.OK {
		t.Fatal(e)
	}
	return s
}

func made(t *testing.T, p segment.Parts) *segment.Segment {
	t.Helper()
	s, e := segment.Make(p)
	if e != api.OK {
		t.Fatalf("%v: %v", p, e)
	}
	return s
}

// set is a set of a size that has these numbers.
func set(size int, l ...int) *bits.Set {
	s := bits.New(size)
	for _, i := range l {
		s.Put(i)
	}
	return s
}

// full are sets of all documents of each segment.
func full(l []*segment.Segment) []*bits.Set {
	var sets []*bits.Set
	for _, s := range l {
		sets = append(sets, bits.Full(s.Len()))
	}
	return sets
}

func merged(t *testing.T, l []*segment.Segment, live []*bits.Set) *segment.Segment {
	t.Helper()
	s, e := merge.Merge(l, live)
	if s == nil || e != api.OK {
		t.Fatal(s, e)
	}
	return s
}

func refused(t *testing.T, l []*segment.Segment, live []*bits.Set, want api.Errno) {
	t.Helper()
	if s, e := merge.Merge(l, live); s != nil || e != want {
		t.Errorf("%v, want %v", e, want)
	}
}

func same(t *testing.T, got, want *segment.Segment) {
	t.Helper()
	if !segment.Same(got, want) {
		t.Fatalf("%s, want %s", told(got), told(want))
	}
}

// told is how a segment's parts begin, as those of a great one are too many to be read.
func told(s *segment.Segment) string {
	return fmt.Sprintf("%.600q", fmt.Sprint(s.Parts()))
}

// ordered holds Order's answer against that of a plain sort.
func ordered(t *testing.T, l [][]int) [][2]int {
	t.Helper()
	var want [][2]int
	for i := range l {
		for k := range l[i] {
			want = append(want, [2]int{i, k})
		}
	}
	slices.SortFunc(want, func(a, b [2]int) int { return cmp.Compare(l[a[0]][a[1]], l[b[0]][b[1]]) })
	got, e := merge.Order(l)
	if e != api.OK || !slices.Equal(got, want) {
		t.Fatalf("%v: %.600s, want %.600s", e, fmt.Sprint(l, got), fmt.Sprint(want))
	}
	return got
}

// placed holds Places' answer against what is found number by number.
func placed(t *testing.T, order [][2]int, i, n int) {
	t.Helper()
	var want []int
	for k := range max(n, 0) {
		want = append(want, slices.Index(order, [2]int{i, k}))
	}
	if got := merge.Places(order, i, n); !slices.Equal(got, want) {
		t.Fatalf("%v, %d, %d: %v, want %v", order, i, n, got, want)
	}
}

// dealt are the numbers below many, or some of them, dealt to lists by chance.
func dealt(lists, many int, pick func(n int) int) [][]int {
	l := make([][]int, lists)
	for n := range many {
		if i := pick(lists + 1); i < lists {
			l[i] = append(l[i], n)
		}
	}
	return l
}

// P11.1, Order: the chapter's example, the edges, and what is dealt by chance.
func TestOrder(t *testing.T) {
	if got := ordered(t, [][]int{{1, 4}, {2}}); !slices.Equal(got, [][2]int{{0, 0}, {1, 0}, {0, 1}}) {
		t.Error(got)
	}
	for _, l := range [][][]int{
		nil, {}, {nil}, {{}}, {nil, {}, nil}, {{0}}, {{math.MaxInt}}, {{0, 1, math.MaxInt - 1, math.MaxInt}}, {nil, {0}, nil}, {{0}, {1}}, {{1}, {0}}, {{math.MaxInt}, {0}},
		{{0, 2, 4}, {1, 3, 5}}, {{0, 1, 2}, {3, 4, 5}}, {{3, 4, 5}, {0, 1, 2}}, {{0, 9}, {1, 8}, {2, 7}, {3, 6}, {4, 5}}, {{5}, {4}, {3}, {2}, {1}, {0}}, {{0, math.MaxInt}, {math.MaxInt - 1}, {1}},
	} {
		ordered(t, l)
	}
	pick := chance(111)
	for lists := range 20 {
		for many := range 40 {
			ordered(t, dealt(lists, many, pick))
		}
	}
}

// P11.1, Order: lists that do not rise, or begin below 0, whatever stands beside them.
func TestOrderWrong(t *testing.T) {
	for _, wrong := range [][]int{{-1}, {math.MinInt}, {-1, 0}, {math.MinInt, 5}, {-2, -1}, {0, 0}, {3, 3}, {1, 0}, {0, 1, 1}, {5, 6, 4}, {0, -1}, {7, math.MaxInt, math.MaxInt}, {math.MaxInt, 0}, {math.MaxInt, math.MinInt}} {
		for _, beside := range [][][]int{nil, {nil}, {{0, 1, 2}}, {{9}, {9}}, {{1}, {1, 2}, nil}, {wrong}} {
			for at := range len(beside) + 1 {
				l := slices.Insert(slices.Clone(beside), at, wrong)
				if order, e := merge.Order(l); len(order) != 0 || e != api.ErrArg {
					t.Errorf("%v: %v, %v", l, order, e)
				}
			}
		}
	}
}

// P11.1, Order: each single number that stands in two lists.
func TestOrderTwice(t *testing.T) {
	for _, l := range [][][]int{{{0}, {0}}, {{math.MaxInt}, {math.MaxInt}}, {{0, 1}, {0, 1}}, {{4}, {}, {4}}, {{4}, {4}, {4}}, {{1, 2, 3}, {0, 3}}, {{1, 2, 3}, {1, 9}}, {{0, math.MaxInt}, {1, math.MaxInt}}} {
		if order, e := merge.Order(l); len(order) != 0 || e != api.ErrTwice {
			t.Errorf("%v: %v, %v", l, order, e)
		}
	}
	pick := chance(112)
	for lists := 2; lists < 9; lists++ {
		l := dealt(lists, 40, pick)
		for from := range lists {
			for _, n := range l[from] {
				to := (from + 1 + pick(lists-1)) % lists
				both := slices.Clone(l)
				at, _ := slices.BinarySearch(l[to], n)
				both[to] = slices.Insert(slices.Clone(l[to]), at, n)
				if order, e := merge.Order(both); len(order) != 0 || e != api.ErrTwice {
					t.Fatalf("%v: %v, %v", both, order, e)
				}
			}
		}
	}
}

// P11.1, Places: those of orders, of each list, and of fewer and more numbers than it has.
func TestPlaces(t *testing.T) {
	order := ordered(t, [][]int{{1, 4}, {2}})
	for _, c := range []struct {
		i, n int
		want []int
	}{{0, 2, []int{0, 2}}, {1, 1, []int{1}}, {0, 1, []int{0}}, {0, 4, []int{0, 2, -1, -1}}, {1, 0, nil}, {1, -1, nil}, {0, math.MinInt, nil}, {2, 2, []int{-1, -1}}, {-1, 1, []int{-1}}, {math.MaxInt, 1, []int{-1}}, {math.MinInt, 1, []int{-1}}} {
		if got := merge.Places(order, c.i, c.n); !slices.Equal(got, c.want) {
			t.Errorf("%d, %d: %v", c.i, c.n, got)
		}
	}
	placed(t, nil, 0, 3)
	placed(t, [][2]int{}, 0, 0)
	pick := chance(113)
	for lists := range 8 {
		l := dealt(lists, 30, pick)
		order := ordered(t, l)
		for i := -1; i <= lists; i++ {
			for n := -1; n < 33; n++ {
				placed(t, order, i, n)
			}
		}
	}
}

// P11.1, Places: orders of which some were left out, and places that no list of so many numbers has.
func TestPlacesOfSome(t *testing.T) {
	for _, order := range [][][2]int{
		{{0, 1}, {0, 3}}, {{1, 0}, {0, 2}}, {{0, -1}, {0, 0}}, {{0, math.MinInt}, {0, math.MaxInt}, {0, 1}}, {{0, 3}, {0, 4}, {0, 5}}, {{2, 2}, {1, 1}, {0, 0}}, {{0, 3}, {0, 2}, {0, 1}, {0, 0}}, {{-1, 0}, {math.MaxInt, 0}, {math.MinInt, 1}},
	} {
		for i := range 4 {
			for n := range 6 {
				placed(t, order, i, n)
			}
		}
	}
}

// P11.2: what stands in documents that live, as their numbers rise; terms that are gone; Ids that stand twice stay.
func TestMerge(t *testing.T) {
	a := built(t, []api.Entry{of(2, "t", "a b"), of(7, "t", "c", "u", "a"), of(9, "t", "a a")})
	b := built(t, []api.Entry{of(3, "t", "b"), of(8, "t", "a")})
	c := built(t, []api.Entry{of(0), of(11, "z", "z a z")})
	for _, x := range []struct {
		l    []*segment.Segment
		live []*bits.Set
		want []api.Entry
	}{
		{nil, nil, nil}, {[]*segment.Segment{}, []*bits.Set{}, nil}, {[]*segment.Segment{a, b, c}, []*bits.Set{set(3), set(2), set(2)}, nil},
		{[]*segment.Segment{a, b}, []*bits.Set{set(3, 0, 2), bits.Full(2)}, []api.Entry{of(2, "t", "a b"), of(3, "t", "b"), of(8, "t", "a"), of(9, "t", "a a")}},
		{[]*segment.Segment{c, b, a}, []*bits.Set{bits.Full(2), set(2, 1), set(3, 1)}, []api.Entry{of(0), of(7, "t", "c", "u", "a"), of(8, "t", "a"), of(11, "z", "z a z")}},
		{[]*segment.Segment{a}, []*bits.Set{set(3, 1)}, []api.Entry{of(7, "t", "c", "u", "a")}},
		{[]*segment.Segment{c}, []*bits.Set{set(2, 0)}, []api.Entry{of(0)}},
		{[]*segment.Segment{a, a, a}, []*bits.Set{set(3, 2), set(3), set(3, 0)}, []api.Entry{of(2, "t", "a b"), of(9, "t", "a a")}},
	} {
		same(t, merged(t, x.l, x.live), built(t, x.want))
	}
}

// P11.2: parts that no buffer makes: keys of no term, great places, the least and the greatest numbers.
func TestMergeParts(t *testing.T) {
	const far = 1<<31 - 1
	a := made(t, segment.Parts{Ids: []int{math.MinInt, -1, 5}, Seqs: []int{0, 4, math.MaxInt}, Keys: []string{"", "\x00", "t\x00a", "\xff"}, Lists: [][]api.Posting{{one(0, 0), one(2, far)}, {one(1, 3)}, {one(0, 7), one(1, 0, 8), one(2, 9)}, {one(2, 1)}}})
	b := made(t, segment.Parts{Ids: []int{5, math.MaxInt}, Seqs: []int{1, math.MaxInt - 1}, Keys: []string{"", "a", "t\x00a"}, Lists: [][]api.Posting{{one(1, 0, 1, far)}, {one(0, 0)}, {one(0, 6)}}})
	l := []*segment.Segment{a, b}
	same(t, merged(t, l, full(l)), made(t, segment.Parts{Ids: []int{math.MinInt, 5, -1, math.MaxInt, 5}, Seqs: []int{0, 1, 4, math.MaxInt - 1, math.MaxInt}, Keys: []string{"", "\x00", "a", "t\x00a", "\xff"},
		Lists: [][]api.Posting{{one(0, 0), one(3, 0, 1, far), one(4, far)}, {one(2, 3)}, {one(1, 0)}, {one(0, 7), one(1, 6), one(2, 0, 8), one(4, 9)}, {one(4, 1)}}}))
	same(t, merged(t, l, []*bits.Set{set(3, 1), set(2, 1)}), made(t, segment.Parts{Ids: []int{-1, math.MaxInt}, Seqs: []int{4, math.MaxInt - 1}, Keys: []string{"", "\x00", "t\x00a"}, Lists: [][]api.Posting{{one(1, 0, 1, far)}, {one(0, 3)}, {one(0, 0, 8)}}}))
}

// hand is entries dealt to segments, which of them live in each, and what is left, in the row of its numbers.
type hand struct {
	entries [][]api.Entry
	live    []*bits.Set
	left    []api.Entry
}

// hands are some by chance, of no segment and of many; empty ones, and ones of which nothing lives, are among them.
func hands() []hand {
	pick := chance(114)
	var l []hand
	for lists := range 12 {
		for _, many := range []int{0, 1, 5, 9, 30, 90} {
			h := hand{entries: make([][]api.Entry, lists), live: make([]*bits.Set, lists)}
			for i, seqs := range dealt(lists, many, pick) {
				h.live[i] = bits.New(len(seqs))
				most := 1 + pick(5)
				for k, seq := range seqs {
					h.entries[i] = append(h.entries[i], some(seq, pick))
					if pick(5) < most {
						h.live[i].Put(k)
						h.left = append(h.left, h.entries[i][k])
					}
				}
			}
			slices.SortFunc(h.left, func(a, b api.Entry) int { return cmp.Compare(a.Seq, b.Seq) })
			l = append(l, h)
		}
	}
	return l
}

func (h hand) segments(t *testing.T) []*segment.Segment {
	t.Helper()
	var l []*segment.Segment
	for _, entries := range h.entries {
		l = append(l, built(t, entries))
	}
	return l
}

// P11.2: what is left is the segment of the documents that live, whatever the row of the segments.
func TestMergeHands(t *testing.T) {
	for _, h := range hands() {
		l, want := h.segments(t), built(t, h.left)
		same(t, merged(t, l, h.live), want)
		slices.Reverse(l)
		slices.Reverse(h.live)
		same(t, merged(t, l, h.live), want)
	}
}

// P11.2: of one segment, each set of its documents.
func TestMergeOne(t *testing.T) {
	pick := chance(115)
	var l []api.Entry
	for i := range 10 {
		l = append(l, some(3*i, pick))
	}
	s := built(t, l)
	for in := range 1 << len(l) {
		live := bits.New(len(l))
		var left []api.Entry
		for i := range l {
			if in>>i&1 == 1 {
				live.Put(i)
				left = append(left, l[i])
			}
		}
		same(t, merged(t, []*segment.Segment{s}, []*bits.Set{live}), built(t, left))
	}
}

// P11.2, ErrArg: as many sets as segments, none of them nil, each as great as its segment, wherever the wrong one stands.
func TestMergeWrong(t *testing.T) {
	h := hands()[5*6+3]
	l := h.segments(t)
	for many := range 8 {
		if sets := append(slices.Clone(h.live), bits.New(0), bits.New(0), bits.New(0))[:many]; many != len(l) {
			refused(t, l, sets, api.ErrArg)
		}
	}
	refused(t, nil, []*bits.Set{bits.New(0)}, api.ErrArg)
	refused(t, []*segment.Segment{built(t, nil)}, nil, api.ErrArg)
	for i := range l {
		none := slices.Clone(l)
		none[i] = nil
		refused(t, none, h.live, api.ErrArg)
		for _, wrong := range []*bits.Set{nil, bits.New(l[i].Len() + 1), bits.Full(l[i].Len() + 1), bits.New(l[i].Len() + 64), bits.New(max(l[i].Len(), 2) - 1), bits.Full(max(l[i].Len(), 2) - 1)} {
			if wrong == nil || wrong.Size() != l[i].Len() {
				sets := slices.Clone(h.live)
				sets[i] = wrong
				refused(t, l, sets, api.ErrArg)
			}
		}
	}
	same(t, merged(t, l, h.live), built(t, h.left))
}

// P11.2, ErrArg: an empty segment, and none of it.
func TestMergeWrongEmpty(t *testing.T) {
	s := built(t, nil)
	for _, x := range []struct {
		s *segment.Segment
		b *bits.Set
	}{{nil, nil}, {nil, bits.New(0)}, {s, nil}, {s, bits.New(1)}, {s, bits.Full(1)}} {
		refused(t, []*segment.Segment{x.s}, []*bits.Set{x.b}, api.ErrArg)
	}
	same(t, merged(t, []*segment.Segment{s, s}, []*bits.Set{bits.New(0), bits.Full(-3)}), s)
}

// P11.2, ErrTwice: two that live have one Seq; not, if one of them does not live. ErrArg is told ahead of it.
func TestMergeTwice(t *testing.T) {
	a := built(t, []api.Entry{of(1, "t", "a"), of(4, "t", "b"), of(math.MaxInt, "t", "c")})
	b := built(t, []api.Entry{of(0, "u", "a"), of(4, "u", "b")})
	c := built(t, []api.Entry{of(math.MaxInt, "v", "a")})
	l := []*segment.Segment{a, b, c}
	for in := range 1 << 6 {
		x := []*bits.Set{bits.New(3), bits.New(2), bits.New(1)}
		for i := range 6 {
			if in>>i&1 == 1 {
				k := []int{0, 0, 0, 1, 1, 2}[i]
				x[k].Put(i - []int{0, 3, 5}[k])
			}
		}
		if in>>1&1+in>>4&1 == 2 || in>>2&1+in>>5&1 == 2 {
			refused(t, l, x, api.ErrTwice)
			refused(t, append(l[:3:3], c), append(x[:3:3], bits.New(2)), api.ErrArg)
			refused(t, append(l[:3:3], nil), append(x[:3:3], bits.New(0)), api.ErrArg)
			refused(t, l, append(x[:3:3], bits.New(0)), api.ErrArg)
		} else if m := merged(t, l, x); m.Len() != x[0].Count()+x[1].Count()+x[2].Count() {
			t.Errorf("%d documents", m.Len())
		}
	}
	refused(t, []*segment.Segment{a, a}, []*bits.Set{set(3, 0, 1), set(3, 1, 2)}, api.ErrTwice)
	refused(t, []*segment.Segment{c, a, c}, []*bits.Set{bits.Full(1), set(3), bits.Full(1)}, api.ErrTwice)
}

// P11.3: merges of merges are the merge of all, however the segments are put together, and of a merge alone it is the same.
func TestMergeOfMerges(t *testing.T) {
	pick := chance(116)
	for _, h := range hands() {
		l := h.segments(t)
		whole := merged(t, l, h.live)
		same(t, merged(t, []*segment.Segment{whole}, full([]*segment.Segment{whole})), whole)
		for range 4 {
			parts := make([]hand, 1+pick(4))
			groups := make([][]*segment.Segment, len(parts))
			for i := range l {
				k := pick(len(parts))
				groups[k], parts[k].live = append(groups[k], l[i]), append(parts[k].live, h.live[i])
			}
			var merges []*segment.Segment
			for k := range parts {
				merges = append(merges, merged(t, groups[k], parts[k].live))
			}
			same(t, merged(t, merges, full(merges)), whole)
		}
		stack := merged(t, nil, nil)
		for i := range l {
			stack = merged(t, []*segment.Segment{stack, l[i]}, []*bits.Set{bits.Full(stack.Len()), h.live[i]})
		}
		same(t, stack, whole)
	}
}

// P11.3: what lives of a merge is what lives of all.
func TestMergeCutBehind(t *testing.T) {
	for _, h := range hands() {
		l := h.segments(t)
		whole := merged(t, l, full(l))
		live := bits.New(whole.Len())
		for i, s := range l {
			for k := range s.Len() {
				if h.live[i].Has(k) {
					live.Put(whole.Above(0) - whole.Above(s.Seq(k)))
				}
			}
		}
		same(t, merged(t, []*segment.Segment{whole}, []*bits.Set{live}), merged(t, l, h.live))
	}
}

// R4: what is handed in is not changed, the room behind it neither.
func TestHandedIn(t *testing.T) {
	for _, h := range hands() {
		l := h.segments(t)
		own := append(slices.Clone(l), nil, nil)[:len(l)]
		sets := append(slices.Clone(h.live), nil, nil)[:len(l)]
		var was [][]int
		for _, s := range sets {
			was = append(was, s.List())
		}
		merged(t, own, sets)
		for i := range l {
			if own[i] != l[i] || sets[i] != h.live[i] || !slices.Equal(sets[i].List(), was[i]) || sets[i].Size() != l[i].Len() {
				t.Fatal("what was handed in is changed")
			}
			same(t, l[i], built(t, h.entries[i]))
		}
		if own = own[:len(l)+2]; own[len(l)] != nil || own[len(l)+1] != nil || sets[:len(l)+2][len(l)] != nil {
			t.Fatal("the room behind is changed")
		}
	}
	lists := [][]int{append([]int{1, 4}, 77)[:2], append([]int{2}, 78)[:1]}
	order := ordered(t, lists)
	if !slices.Equal(lists[0][:3], []int{1, 4, 77}) || !slices.Equal(lists[1][:2], []int{2, 78}) {
		t.Error(lists)
	}
	order = append(order, [2]int{9, 9})[:3]
	merge.Places(order, 0, 5)
	if !slices.Equal(order[:4], [][2]int{{0, 0}, {1, 0}, {0, 1}, {9, 9}}) {
		t.Error(order)
	}
}

// R4: nothing of what was handed in is kept, and answers are apart from each other.
func TestNotKept(t *testing.T) {
	for _, h := range hands() {
		l, sets := h.segments(t), []*bits.Set{}
		for _, s := range h.live {
			sets = append(sets, s.Clone())
		}
		got := merged(t, l, sets)
		for i, s := range sets {
			for k := range s.Size() {
				s.Put(k)
			}
			sets[i], l[i] = nil, nil
		}
		same(t, got, built(t, h.left))
	}
	lists := [][]int{{1, 4}, {2}}
	order, _ := merge.Order(lists)
	other, _ := merge.Order(lists)
	lists[0][0], other[0] = 3, [2]int{7, 7}
	a, b := merge.Places(order, 0, 2), merge.Places(order, 0, 2)
	order[0], b[0] = [2]int{1, 1}, 9
	if !slices.Equal(order[1:], [][2]int{{1, 0}, {0, 1}}) || !slices.Equal(a, []int{0, 2}) {
		t.Error(order, a)
	}
}

// R5: what is told once is told each time.
func TestAsBefore(t *testing.T) {
	for _, h := range hands() {
		l := h.segments(t)
		want := merged(t, l, h.live)
		for range 3 {
			same(t, merged(t, h.segments(t), h.live), want)
			same(t, merged(t, l, h.live), want)
		}
	}
}

// P11.1, P11.2: many numbers, many segments, many words.
func TestGreat(t *testing.T) {
	const lists, many = 500, 20000
	nums := make([][]int, lists)
	entries := make([][]api.Entry, lists)
	var left []api.Entry
	for n := range many {
		i := n * 7919 % lists
		nums[i] = append(nums[i], n)
		e := of(n, "t", "a w"+strconv.Itoa(n%1000), "u", strings.Repeat("b ", n%5))
		entries[i] = append(entries[i], e)
		if n%3 > 0 {
			left = append(left, e)
		}
	}
	for at, x := range ordered(t, nums) {
		if nums[x[0]][x[1]] != at {
			t.Fatal(at, x)
		}
	}
	var l []*segment.Segment
	var live []*bits.Set
	for i := range entries {
		l = append(l, built(t, entries[i]))
		s := bits.New(len(nums[i]))
		for k, n := range nums[i] {
			if n%3 > 0 {
				s.Put(k)
			}
		}
		live = append(live, s)
	}
	same(t, merged(t, l, live), built(t, left))
}
