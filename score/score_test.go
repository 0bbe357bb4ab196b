package score_test

import (
	"math"
	"slices"
	"testing"

	"concordance/api"
	"concordance/score"
)

// chance tells numbers that seem to come by chance, the same ones each time.
func chance(seed uint64) func(n int) int {
	return func(n int) int {
		seed = seed*6364136223846793005 + 1442695040888963407
		return int(seed>>33) % n
	}
}

func rank(id, points, seq int) score.Rank {
	return score.Rank{Id: id, Score: points, Seq: seq}
}

// better is what the chapter says of two, word for word.
func better(a, b score.Rank) bool {
	if a.Score != b.Score {
		return a.Score > b.Score
	}
	if a.Seq != b.Seq {
		return a.Seq < b.Seq
	}
	return a.Id < b.Id
}

// best is the best k of a list, each looked for in all that are left.
func best(l []score.Rank, k int) []score.Rank {
	left := slices.Clone(l)
	var out []score.Rank
	for len(out) < k && len(left) > 0 {
		at := 0
		for i, r := range left {
			if better(r, left[at]) {
				at = i
			}
		}
		out, left = append(out, left[at]), slices.Delete(left, at, at+1)
	}
	return out
}

// some are ranks by chance, so many, of few numbers, so that many are alike.
func some(pick func(n int) int, many int) []score.Rank {
	few := 1 + pick(6)
	var l []score.Rank
	for range many {
		l = append(l, rank(pick(few)-1, pick(few)-1, pick(few)-1))
	}
	return l
}

// edges are ranks of all the numbers at the ends, and about 0.
func edges() []score.Rank {
	ends := []int{math.MinInt, math.MinInt + 1, -1, 0, 1, math.MaxInt - 1, math.MaxInt}
	var l []score.Rank
	for _, id := range ends {
		for _, points := range ends {
			for _, seq := range ends {
				l = append(l, rank(id, points, seq))
			}
		}
	}
	return l
}

// filled is one that keeps k, with all of a list added.
func filled(l []score.Rank, k int) *score.Top {
	top := score.New(k)
	for _, r := range l {
		top.Add(r)
	}
	return top
}

// P14.1, Better: a greater Score; of one Score a less Seq; of one Seq a less Id; none is better than the same.
func TestBetter(t *testing.T) {
	for _, c := range []struct {
		a, b score.Rank
		want bool
	}{
		{rank(9, 2, 9), rank(0, 1, 0), true},
		{rank(0, 1, 0), rank(9, 2, 9), false},
		{rank(9, 1, 1), rank(0, 1, 2), true},
		{rank(0, 1, 2), rank(9, 1, 1), false},
		{rank(1, 1, 1), rank(2, 1, 1), true},
		{rank(2, 1, 1), rank(1, 1, 1), false},
		{rank(1, 1, 1), rank(1, 1, 1), false},
		{score.Rank{}, score.Rank{}, false},
		{rank(0, math.MaxInt, 0), rank(0, math.MinInt, 0), true},
		{rank(0, math.MinInt, 0), rank(0, math.MaxInt, 0), false},
		{rank(0, 0, math.MinInt), rank(0, 0, math.MaxInt), true},
		{rank(math.MaxInt, 0, 0), rank(math.MinInt, 0, 0), false},
	} {
		if got := score.Better(c.a, c.b); got != c.want {
			t.Errorf("%v, %v: %v", c.a, c.b, got)
		}
	}
	for _, a := range edges() {
		for _, b := range edges() {
			if got := score.Better(a, b); got != better(a, b) {
				t.Fatalf("%v, %v: %v", a, b, got)
			}
		}
	}
}

// P14.1, Add, Len, Total, Worst, List: after each one they are as of all that came so far.
func TestTop(t *testing.T) {
	pick := chance(14)
	for round := range 400 {
		k := pick(12) - 1
		top := score.New(k)
		var all []score.Rank
		for _, r := range some(pick, pick(40)) {
			was := best(all, k)
			all = append(all, r)
			now := best(all, k)
			kept := len(now) > len(was) || len(was) > 0 && better(r, was[len(was)-1])
			if got := top.Add(r); got != kept {
				t.Fatalf("round %d, room %d: %v behind %v: %v", round, k, r, was, got)
			}
			same(t, top, now, len(all))
		}
		same(t, top, best(all, k), len(all))
	}
}

// same asks of all that is told of what is kept.
func same(t *testing.T, top *score.Top, want []score.Rank, total int) {
	t.Helper()
	worst, is := top.Worst()
	least := score.Rank{}
	if len(want) > 0 {
		least = want[len(want)-1]
	}
	if worst != least || is != (len(want) > 0) {
		t.Fatalf("worst %v, %v, of %v", worst, is, want)
	}
	if l := top.List(); !slices.Equal(l, want) || top.Len() != len(want) || top.Total() != total {
		t.Fatalf("%v, %d, %d: want %v, %d", l, top.Len(), top.Total(), want, total)
	}
}

// P14.1, New: of 0, and of a number below it, none is kept, and all are counted; what was not filled has no worst one.
func TestNone(t *testing.T) {
	for _, k := range []int{0, -1, -7, math.MinInt} {
		top := score.New(k)
		same(t, top, nil, 0)
		for i := range 5 {
			if top.Add(rank(i, math.MaxInt, math.MinInt)) {
				t.Errorf("room %d: kept", k)
			}
			same(t, top, nil, i+1)
		}
	}
	same(t, score.New(3), nil, 0)
}

// P14.1, New: room for any number may be asked for; all that come are kept then.
func TestRoom(t *testing.T) {
	for _, k := range []int{math.MaxInt, math.MaxInt - 1, 1 << 40} {
		top := score.New(k)
		for i := range 9 {
			if !top.Add(rank(i, i%3, 9-i)) {
				t.Errorf("room %d: not kept", k)
			}
		}
		same(t, top, []score.Rank{rank(8, 2, 1), rank(5, 2, 4), rank(2, 2, 7), rank(7, 1, 2), rank(4, 1, 5), rank(1, 1, 8), rank(6, 0, 3), rank(3, 0, 6), rank(0, 0, 9)}, 9)
		if l := score.Best([]score.Rank{rank(1, 1, 1), rank(2, 2, 2)}, k); len(l) != 2 {
			t.Error(l)
		}
	}
}

// P14.1, Add: one that is the same as the least good one is kept if there is room, and not if there is none; one that is a little better is, and the least good one no more.
func TestAdd(t *testing.T) {
	top := score.New(2)
	for i, c := range []struct {
		r    score.Rank
		kept bool
		want []score.Rank
	}{
		{rank(5, 1, 5), true, []score.Rank{rank(5, 1, 5)}},
		{rank(5, 1, 5), true, []score.Rank{rank(5, 1, 5), rank(5, 1, 5)}},
		{rank(5, 1, 5), false, []score.Rank{rank(5, 1, 5), rank(5, 1, 5)}},
		{rank(6, 1, 5), false, []score.Rank{rank(5, 1, 5), rank(5, 1, 5)}},
		{rank(4, 1, 5), true, []score.Rank{rank(4, 1, 5), rank(5, 1, 5)}},
		{rank(9, 1, 4), true, []score.Rank{rank(9, 1, 4), rank(4, 1, 5)}},
		{rank(0, 0, 0), false, []score.Rank{rank(9, 1, 4), rank(4, 1, 5)}},
		{rank(9, 2, 9), true, []score.Rank{rank(9, 2, 9), rank(9, 1, 4)}},
		{rank(0, math.MinInt, math.MinInt), false, []score.Rank{rank(9, 2, 9), rank(9, 1, 4)}},
		{rank(0, math.MaxInt, math.MaxInt), true, []score.Rank{rank(0, math.MaxInt, math.MaxInt), rank(9, 2, 9)}},
	} {
		if got := top.Add(c.r); got != c.kept {
			t.Errorf("%v: %v", c.r, got)
		}
		same(t, top, c.want, i+1)
	}
}

// P14.2, Best and Join: the best k of a list, and of all lists, the best first; of k below 0 none; the chapter's example.
func TestBest(t *testing.T) {
	l := []score.Rank{rank(7, 1, 0), rank(8, 3, 9), rank(9, 3, 2)}
	if got := score.Best(l, 2); !slices.Equal(got, []score.Rank{rank(9, 3, 2), rank(8, 3, 9)}) {
		t.Error(got)
	}
	ends := edges()
	if got := score.Best(ends, len(ends)); !slices.Equal(got, best(ends, len(ends))) {
		t.Error("edges")
	}
	for _, k := range []int{math.MinInt, -1, 0} {
		if score.Best(l, k) != nil && len(score.Best(l, k)) != 0 || len(score.Join([][]score.Rank{l, l}, k)) != 0 {
			t.Errorf("%d: some", k)
		}
	}
	pick := chance(141)
	for round := range 400 {
		var lists [][]score.Rank
		var all []score.Rank
		for range pick(5) {
			part := some(pick, pick(15))
			lists, all = append(lists, part), append(all, part...)
		}
		k := pick(20) - 1
		if got := score.Best(all, k); !slices.Equal(got, best(all, k)) {
			t.Fatalf("round %d: best %d of %v: %v", round, k, all, got)
		}
		if got := score.Join(lists, k); !slices.Equal(got, best(all, k)) {
			t.Fatalf("round %d: best %d of %v: %v", round, k, lists, got)
		}
	}
}

// P14.2, Best, Join, Hits: nil and empty lists are one.
func TestEmpty(t *testing.T) {
	for _, l := range [][]score.Rank{nil, {}} {
		if len(score.Best(l, 3)) != 0 || len(score.Hits(l)) != 0 || len(score.Join([][]score.Rank{l, nil, {}}, 3)) != 0 {
			t.Error("some")
		}
	}
	if len(score.Join(nil, 3)) != 0 || len(score.Join([][]score.Rank{}, 3)) != 0 {
		t.Error("some of no lists")
	}
	if l := score.Join([][]score.Rank{nil, {rank(1, 2, 3)}, {}}, 3); !slices.Equal(l, []score.Rank{rank(1, 2, 3)}) {
		t.Error(l)
	}
}

// P14.2, Hits: of each its Id and Score, as they stand in the list.
func TestHits(t *testing.T) {
	l := []score.Rank{rank(7, 8, 9), rank(-1, math.MinInt, 0), rank(7, 8, 9), rank(math.MaxInt, 0, 1), {}}
	want := []api.Hit{{Id: 7, Score: 8}, {Id: -1, Score: math.MinInt}, {Id: 7, Score: 8}, {Id: math.MaxInt, Score: 0}, {}}
	if got := score.Hits(l); !slices.Equal(got, want) {
		t.Error(got)
	}
}

// orders are all rows in which ranks can come.
func orders(l []score.Rank) [][]score.Rank {
	if len(l) == 0 {
		return [][]score.Rank{nil}
	}
	var all [][]score.Rank
	for i, r := range l {
		rest := slices.Delete(slices.Clone(l), i, i+1)
		for _, o := range orders(rest) {
			all = append(all, append([]score.Rank{r}, o...))
		}
	}
	return all
}

// P14.3: what is kept hangs on no row in which they come.
func TestRows(t *testing.T) {
	l := []score.Rank{rank(1, 3, 3), rank(2, 3, 3), rank(0, 3, 4), rank(5, 2, 1), rank(5, 2, 1), rank(4, 1, 0), rank(9, 9, 9)}
	for k := range len(l) + 2 {
		want := best(l, k)
		for _, o := range orders(l) {
			if got := filled(o, k).List(); !slices.Equal(got, want) {
				t.Fatalf("%d of %v: %v", k, o, got)
			}
		}
	}
}

// P14.3: the best of the bests of parts are the best of all, wherever they are cut.
func TestParts(t *testing.T) {
	pick := chance(143)
	for round := range 300 {
		all, k := some(pick, 30), pick(12)
		var parts [][]score.Rank
		for rest := all; len(rest) > 0; {
			n := 1 + pick(len(rest))
			parts, rest = append(parts, score.Best(rest[:n], k+pick(2))), rest[n:]
		}
		if got := score.Join(parts, k); !slices.Equal(got, score.Best(all, k)) {
			t.Fatalf("round %d: best %d of %v: %v", round, k, all, got)
		}
	}
}

// R4: what is handed in is not changed, its spare room neither.
func TestHandedIn(t *testing.T) {
	pick := chance(4)
	whole := some(pick, 24)
	was := slices.Clone(whole)
	lists := [][]score.Rank{whole[:8], whole[8:16:20], nil, whole[20:22]}
	score.Join(lists, 5)
	score.Best(whole[:8], 3)
	score.Best(whole[:8], 0)
	score.Hits(whole[:8])
	if !slices.Equal(whole, was) || len(lists) != 4 || lists[2] != nil || &lists[1][0] != &whole[8] {
		t.Error("changed")
	}
}

// R4: what is answered is new memory: what is done to it, or to what was handed in, comes to nothing else.
func TestNewMemory(t *testing.T) {
	l := []score.Rank{rank(1, 9, 1), rank(2, 8, 2), rank(3, 7, 3)}
	one, two := score.Best(l, 3), score.Join([][]score.Rank{l}, 9)
	top := filled(l, 3)
	first, second := top.List(), top.List()
	hits := score.Hits(l)
	clear(first)
	first = append(first[:0], make([]score.Rank, cap(first))...)
	if !slices.Equal(second, l) || !slices.Equal(top.List(), l) {
		t.Error("a list is kept")
	}
	clear(l)
	want := []score.Rank{rank(1, 9, 1), rank(2, 8, 2), rank(3, 7, 3)}
	if !slices.Equal(one, want) || !slices.Equal(two, want) || !slices.Equal(top.List(), want) || hits[0] != (api.Hit{Id: 1, Score: 9}) {
		t.Error("what was handed in is kept")
	}
	top.Add(rank(4, 10, 4))
	if !slices.Equal(second, want) || len(first) == 0 {
		t.Error("a list that was told changed")
	}
}

// R5: asking changes nothing, and objects beside each other know nothing of each other.
func TestAgain(t *testing.T) {
	a, b := score.New(2), score.New(3)
	for i := range 6 {
		a.Add(rank(i, i, 0))
		b.Add(rank(i, -i, 0))
	}
	for range 3 {
		same(t, a, []score.Rank{rank(5, 5, 0), rank(4, 4, 0)}, 6)
		same(t, b, []score.Rank{rank(0, 0, 0), rank(1, -1, 0), rank(2, -2, 0)}, 6)
	}
}

// R1: many ranks and much room take no time that grows with their product.
func TestGreat(t *testing.T) {
	pick := chance(1)
	const many = 300000
	l := make([]score.Rank, 0, many)
	for i := range many {
		l = append(l, rank(i, pick(1000), pick(1000)))
	}
	want := slices.Clone(l)
	slices.SortFunc(want, func(a, b score.Rank) int {
		if better(a, b) {
			return -1
		}
		return 1
	})
	for _, k := range []int{1, 10, many / 2, many, many + 1} {
		if got := score.Best(l, k); !slices.Equal(got, want[:min(k, many)]) {
			t.Errorf("best %d", k)
		}
	}
	slices.Reverse(want)
	if got := score.Best(want, many/2); got[0] != want[many-1] || len(got) != many/2 {
		t.Error("each is better than those ahead of it")
	}
}
