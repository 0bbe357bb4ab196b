package bits_test

import (
	"math"
	"slices"
	"testing"

	"concordance/bits"
)

// sizes are the edges of words of 64, and some between.
func sizes() []int {
	return []int{0, 1, 2, 7, 62, 63, 64, 65, 70, 126, 127, 128, 129, 130, 191, 192, 193, 300}
}

// far are numbers that no small set has.
func far() []int {
	return []int{math.MinInt, math.MinInt + 1, math.MinInt32, -129, -128, -65, -64, -63, -2, -1, 1 << 31, 1 << 32, 1<<32 + 1, 1 << 62, math.MaxInt - 1, math.MaxInt}
}

// chance tells numbers that seem to come by chance, the same ones each time.
func chance(seed uint64) func(n int) int {
	return func(n int) int {
		seed = seed*6364136223846793005 + 1442695040888963407
		return int(seed>>33) % n
	}
}

// of is a set of numbers.
func of(n int, l ...int) *bits.Set {
	s := bits.New(n)
	for _, i := range l {
		s.Put(i)
	}
	return s
}

// some are lists of numbers below n, rising: none, all, each third, the edges, and some by chance.
func some(n int) [][]int {
	pick := chance(uint64(n) + 1)
	l := make([][]int, 8)
	for i := range n {
		l[1] = append(l[1], i)
		if i%3 == 0 {
			l[2] = append(l[2], i)
		}
		if i%64 == 0 || i%64 == 63 || i == n-1 {
			l[3] = append(l[3], i)
		}
		if i < n/2 {
			l[4] = append(l[4], i)
		}
		for k := 5; k < len(l); k++ {
			if pick(k*k-20) == 0 {
				l[k] = append(l[k], i)
			}
		}
	}
	return l
}

// holds asks all that a set can be asked, against a list of what is in it, rising.
func holds(t *testing.T, what string, s *bits.Set, n int, want []int) {
	t.Helper()
	if l := s.List(); s.Size() != n || s.Count() != len(want) || !slices.Equal(l, want) {
		t.Fatalf("%s: size %d, count %d, %v; want size %d, %v", what, s.Size(), s.Count(), l, n, want)
	}
	var told []int
	for i := range s.All() {
		told = append(told, i)
	}
	if !slices.Equal(told, want) {
		t.Fatalf("%s: one by one %v, want %v", what, told, want)
	}
	ask := func(i int) {
		t.Helper()
		rank, is := slices.BinarySearch(want, i)
		next := -1
		if rank < len(want) {
			next = want[rank]
		}
		if s.Has(i) != is || s.Rank(i) != rank || s.Next(i) != next {
			t.Fatalf("%s: of %d: Has %v, Rank %d, Next %d; want %v, %d, %d", what, i, s.Has(i), s.Rank(i), s.Next(i), is, rank, next)
		}
	}
	for i := -130; i < n+200; i++ {
		ask(i)
	}
	for _, i := range far() {
		ask(i)
	}
}

// P3.1, New and Full: of all small sizes, and of one below 0.
func TestNewAndFull(t *testing.T) {
	for n := range 200 {
		l := some(n)
		holds(t, "New", bits.New(n), n, nil)
		holds(t, "Full", bits.Full(n), n, l[1])
	}
	for _, n := range []int{-1, -63, -64, -65, math.MinInt32, math.MinInt} {
		for _, s := range []*bits.Set{bits.New(n), bits.Full(n)} {
			holds(t, "below 0", s, 0, nil)
			if s.Put(0) || s.Put(n) || s.Put(-1) || s.Cut(0) || s.Cut(n) {
				t.Errorf("of size %d something was put or cut", n)
			}
			holds(t, "below 0, put and cut", s, 0, nil)
		}
	}
}

// P3.1, Put and Cut: whether it was otherwise before.
func TestPutAndCut(t *testing.T) {
	for _, n := range sizes() {
		for i := range n {
			s := bits.New(n)
			if !s.Put(i) || s.Put(i) {
				t.Fatalf("size %d: Put(%d)", n, i)
			}
			holds(t, "put", s, n, []int{i})
			if !s.Cut(i) || s.Cut(i) {
				t.Fatalf("size %d: Cut(%d)", n, i)
			}
			holds(t, "put, cut", s, n, nil)
			if !s.Put(i) {
				t.Fatalf("size %d: Put(%d) again", n, i)
			}
			s = bits.Full(n)
			if s.Put(i) || !s.Cut(i) || s.Cut(i) || s.Count() != n-1 || s.Has(i) || !s.Put(i) || s.Count() != n {
				t.Fatalf("size %d: Full, %d", n, i)
			}
		}
	}
}

// P3.1, Put and Cut of a number that is none of the size's: false, and nothing.
func TestPutAndCutOutside(t *testing.T) {
	for _, n := range sizes() {
		for _, l := range some(n) {
			s := of(n, l...)
			for _, i := range append(far(), n, n+1, n+63, n+64, n+65) {
				if s.Put(i) || s.Cut(i) {
					t.Fatalf("size %d: %d was put or cut", n, i)
				}
			}
			holds(t, "outside", s, n, l)
			holds(t, "outside, not", s.Not().Not(), n, l)
		}
	}
}

// P3.1: by chance, against what was put and cut.
func TestByChance(t *testing.T) {
	for _, n := range sizes() {
		pick := chance(uint64(n))
		s, in := bits.New(n), map[int]bool{}
		if n%2 == 1 {
			s = bits.Full(n)
			for i := range n {
				in[i] = true
			}
		}
		for step := range 2000 {
			i := pick(n+4) - 2
			inside := i >= 0 && i < n
			if pick(2) == 0 {
				if s.Put(i) != (inside && !in[i]) {
					t.Fatalf("size %d, step %d: Put(%d)", n, step, i)
				}
				if inside {
					in[i] = true
				}
			} else {
				if s.Cut(i) != in[i] {
					t.Fatalf("size %d, step %d: Cut(%d)", n, step, i)
				}
				delete(in, i)
			}
			if step%100 == 0 {
				var want []int
				for i := range n {
					if in[i] {
						want = append(want, i)
					}
				}
				holds(t, "by chance", s, n, want)
			}
		}
	}
}

// P3.1, Next and Rank: the document's example.
func TestExample(t *testing.T) {
	s := of(70, 3, 69)
	if s.Next(4) != 69 || s.Rank(69) != 1 {
		t.Errorf("Next(4) %d, Rank(69) %d", s.Next(4), s.Rank(69))
	}
}

// P3.1, All: who breaks off is told no more; it can be gone through again.
func TestAllBreaks(t *testing.T) {
	s := bits.Full(200)
	all := s.All()
	for _, most := range []int{1, 2, 63, 64, 65, 128, 199, 200} {
		var told []int
		for i := range all {
			told = append(told, i)
			if len(told) == most {
				break
			}
		}
		if !slices.Equal(told, s.List()[:most]) {
			t.Errorf("of %d: %v", most, told)
		}
	}
}

// P3.1, All: the same as List at the call, whatever is put and cut behind it.
func TestAllIsOfTheCall(t *testing.T) {
	s := of(200, 1, 64, 130)
	all := s.All()
	s.Cut(64)
	s.Put(2)
	s.Put(199)
	if l := slices.Collect(all); !slices.Equal(l, []int{1, 64, 130}) {
		t.Errorf("told behind a change: %v", l)
	}
	var told []int
	for i := range s.All() {
		told = append(told, i)
		s.Cut(130)
		s.Put(i + 1)
		s.Put(70)
	}
	if !slices.Equal(told, []int{1, 2, 130, 199}) {
		t.Errorf("told while it was changed: %v", told)
	}
	holds(t, "changed", s, 200, []int{1, 2, 3, 70, 131, 199})
}

// both is what stands in both lists, one what stands in one of them, none what of n numbers does not stand in the first.
func both(a, b []int) (l []int) {
	for _, i := range a {
		if slices.Contains(b, i) {
			l = append(l, i)
		}
	}
	return l
}

func one(a, b []int) []int {
	l := slices.Concat(a, b)
	slices.Sort(l)
	return slices.Compact(l)
}

func none(n int, a []int) (l []int) {
	for i := range n {
		if !slices.Contains(a, i) {
			l = append(l, i)
		}
	}
	return l
}

// P3.2, And, Or: sets of all these sizes, the one against the other; neither is changed.
func TestAndOr(t *testing.T) {
	for _, n := range []int{0, 1, 63, 64, 65, 130, 193} {
		for _, m := range []int{0, 1, 63, 64, 65, 130, 193} {
			for _, a := range some(n) {
				for _, b := range some(m) {
					s, o := of(n, a...), of(m, b...)
					holds(t, "And", s.And(o), max(n, m), both(a, b))
					holds(t, "Or", s.Or(o), max(n, m), one(a, b))
					if !slices.Equal(s.List(), a) || !slices.Equal(o.List(), b) || s.Size() != n || o.Size() != m {
						t.Fatalf("sizes %d and %d: %v and %v were changed", n, m, a, b)
					}
				}
			}
		}
	}
}

// P3.2, And, Or: words that one of them alone has, on both sides of those of the other one.
func TestAndOrBetween(t *testing.T) {
	a, b := []int{1, 200, 201, 900}, []int{70, 130, 201, 500, 600, 1000}
	for range 2 {
		s, o := of(1001, a...), of(1100, b...)
		holds(t, "And", s.And(o), 1100, []int{201})
		holds(t, "Or", s.Or(o), 1100, one(a, b))
		a, b = b, a
		if s, o = of(1100, a...), of(1001, b...); !slices.Equal(s.Or(o).List(), one(a, b)) {
			t.Errorf("Or: %v", s.Or(o).List())
		}
	}
	s := of(1001, a...)
	holds(t, "And of itself", s.And(s), 1001, s.List())
	holds(t, "Or of itself", s.Or(s), 1001, s.List())
}

// P3.2, Not: no number behind the size comes in.
func TestNot(t *testing.T) {
	for n := range 200 {
		for _, l := range some(n) {
			s := of(n, l...)
			holds(t, "Not", s.Not(), n, none(n, l))
			if m := s.Not().Not().List(); !slices.Equal(m, l) || !slices.Equal(s.List(), l) {
				t.Fatalf("size %d: %v, not not: %v", n, l, m)
			}
		}
	}
}

// P3.2: what is made hangs on what it was made of no more, nor that on it.
func TestMadeHangsOnNothing(t *testing.T) {
	for name, turn := range map[string]func(s *bits.Set) *bits.Set{
		"Clone":       func(s *bits.Set) *bits.Set { return s.Clone() },
		"Not Not":     func(s *bits.Set) *bits.Set { return s.Not().Not() },
		"And":         func(s *bits.Set) *bits.Set { return s.And(s) },
		"And full":    func(s *bits.Set) *bits.Set { return s.And(bits.Full(300)) },
		"full And":    func(s *bits.Set) *bits.Set { return bits.Full(300).And(s) },
		"Or":          func(s *bits.Set) *bits.Set { return s.Or(s) },
		"Or empty":    func(s *bits.Set) *bits.Set { return s.Or(bits.New(300)) },
		"empty Or":    func(s *bits.Set) *bits.Set { return bits.New(300).Or(s) },
		"Clone Clone": func(s *bits.Set) *bits.Set { return s.Clone().Clone() },
	} {
		l := []int{3, 64, 65, 200, 299}
		s := of(300, l...)
		a, b := turn(s), turn(s)
		holds(t, name, a, 300, l)
		for i := range 300 {
			s.Cut(i)
		}
		holds(t, name+", cut in the first one", a, 300, l)
		for i := range 300 {
			a.Put(i)
		}
		if s.Count() != 0 {
			t.Errorf("%s: put into what was made, and it came to the first one", name)
		}
		holds(t, name+", put into another one", b, 300, l)
	}
}

// P3.3: of sets of one size, what Or and Not make, And makes of Nots; and the other way round.
func TestNotsOfAndAndOr(t *testing.T) {
	for _, n := range sizes() {
		for _, a := range some(n) {
			for _, b := range some(n) {
				s, o := of(n, a...), of(n, b...)
				holds(t, "Or, Not", s.Or(o).Not(), n, s.Not().And(o.Not()).List())
				holds(t, "And, Not", s.And(o).Not(), n, s.Not().Or(o.Not()).List())
			}
		}
	}
}

// R1: a set may be of any size, and any of its numbers be put in.
func TestGreatSets(t *testing.T) {
	for _, n := range []int{1 << 31, 1<<31 + 1, 1 << 40, 1 << 62, math.MaxInt} {
		s := bits.New(n)
		l := []int{0, 63, 64, n / 3, n / 2, n - 1}
		for _, i := range slices.Backward(l) {
			if !s.Put(i) || s.Put(i) {
				t.Errorf("size %d: Put(%d)", n, i)
			}
		}
		if s.Size() != n || s.Put(n) || s.Has(n) || s.Put(-1) || s.Next(65) != n/3 || s.Next(n-1) != n-1 || s.Next(n) != -1 || s.Rank(n-1) != len(l)-1 || s.Rank(math.MaxInt) != len(l) {
			t.Errorf("size %d", n)
		}
		if !slices.Equal(s.List(), l) || !slices.Equal(slices.Collect(s.All()), l) {
			t.Errorf("size %d: %v", n, s.List())
		}
		o := of(100, 1, 63)
		if a := s.And(o); a.Size() != n || !slices.Equal(a.List(), []int{63}) {
			t.Errorf("size %d, And: %v", n, a.List())
		}
		if a := o.Or(s); a.Size() != n || !slices.Equal(a.List(), one(l, []int{1})) {
			t.Errorf("size %d, Or: %v", n, a.List())
		}
		if !s.Cut(n-1) || s.Cut(n-1) || s.Next(n/2+1) != -1 {
			t.Errorf("size %d: Cut(%d)", n, n-1)
		}
	}
}

// R1, R4: a set that is handed in and is none is one without numbers.
func TestNoSet(t *testing.T) {
	s := of(70, 3, 69)
	holds(t, "And", s.And(nil), 70, nil)
	holds(t, "Or", s.Or(nil), 70, []int{3, 69})
	holds(t, "itself", s, 70, []int{3, 69})
}

// R4: a list that was told may be changed.
func TestListIsNew(t *testing.T) {
	s := of(70, 3, 69)
	a, b := s.List(), s.List()
	a[0] = 50
	if a = append(a[:1], 7); !slices.Equal(b, []int{3, 69}) {
		t.Errorf("one memory twice: %v", b)
	}
	holds(t, "itself", s, 70, []int{3, 69})
}
