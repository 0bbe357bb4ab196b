package vint_test

import (
	"bytes"
	"math"
	"math/big"
	"slices"
	"testing"

	"concordance/api"
	"concordance/vint"
)

const most = 1 << 62 // the greatest of rising numbers that are got

// chance tells numbers that seem to come by chance, the same ones each time.
func chance(seed uint64) func(n int) int {
	return func(n int) int {
		seed = seed*6364136223846793005 + 1442695040888963407
		return int(seed>>33) % n
	}
}

// numbers are small ones, those beside which another byte comes, and some by chance of each size.
func numbers() []int {
	l := []int{math.MaxInt - 1, math.MaxInt, math.MaxInt32, math.MaxUint32, 300}
	for n := range 1000 {
		l = append(l, n)
	}
	pick := chance(4)
	for k := range 63 {
		l = append(l, 1<<k-1, 1<<k, 1<<k+1)
		for range 10 {
			l = append(l, 1<<k|pick(1<<30)<<30%(1<<k)|pick(1<<30)%(1<<k))
		}
	}
	return l
}

// digits are a number's bytes as the document tells them, by numbers of any size.
func digits(n int) []byte {
	rest, base, digit := big.NewInt(int64(n)), big.NewInt(128), new(big.Int)
	var b []byte
	for {
		rest.DivMod(rest, base, digit)
		b = append(b, byte(digit.Int64()))
		if rest.Sign() == 0 {
			break
		}
		b[len(b)-1] += 128
	}
	return b
}

// around are bytes that stand ahead or behind.
func around() [][]byte {
	return [][]byte{nil, {}, {0}, {1}, {127}, {128}, {255}, {128, 0}, {255, 255, 255, 255, 255, 255, 255, 255, 255, 255}, []byte("some more of them")}
}

// P4.1, Put and Size: bytes that are written out.
func TestPut(t *testing.T) {
	for n, want := range map[int][]byte{
		0: {0}, 1: {1}, 127: {127},
		128: {128, 1}, 129: {129, 1}, 255: {255, 1}, 256: {128, 2}, 300: {172, 2}, 16383: {255, 127},
		16384: {128, 128, 1}, 2097151: {255, 255, 127}, 2097152: {128, 128, 128, 1},
		1<<31 - 1: {255, 255, 255, 255, 7}, 1 << 31: {128, 128, 128, 128, 8}, 1<<32 + 5: {133, 128, 128, 128, 16},
		1<<56 - 1: {255, 255, 255, 255, 255, 255, 255, 127}, 1 << 56: {128, 128, 128, 128, 128, 128, 128, 128, 1},
		1 << 62:     {128, 128, 128, 128, 128, 128, 128, 128, 64},
		math.MaxInt: {255, 255, 255, 255, 255, 255, 255, 255, 127},
	} {
		if b := vint.Put(nil, n); !bytes.Equal(b, want) {
			t.Errorf("Put(%d) = %v, want %v", n, b, want)
		}
		if size := vint.Size(n); size != len(want) {
			t.Errorf("Size(%d) = %d, want %d", n, size, len(want))
		}
	}
}

// P4.1, P4.3: all these numbers, whatever stands ahead and behind.
func TestPutIsGot(t *testing.T) {
	for _, n := range numbers() {
		want := digits(n)
		if vint.Size(n) != len(want) {
			t.Fatalf("Size(%d) = %d, want %d", n, vint.Size(n), len(want))
		}
		for _, ahead := range around() {
			b := vint.Put(ahead, n)
			if !bytes.Equal(b, slices.Concat(ahead, want)) {
				t.Fatalf("Put(%v, %d) = %v, want the bytes %v behind", ahead, n, b, want)
			}
			for _, behind := range around() {
				if m, at, e := vint.Get(slices.Concat(b, behind), len(ahead)); m != n || at != len(b) || e != api.OK {
					t.Fatalf("%d behind %v and ahead of %v: %d, %d, %v", n, ahead, behind, m, at, e)
				}
			}
		}
	}
}

// P4.1, Get: numbers one behind the other, each from the place behind the one ahead.
func TestGetInARow(t *testing.T) {
	var b []byte
	for _, n := range numbers() {
		b = vint.Put(b, n)
	}
	place := 0
	for _, n := range numbers() {
		m, at, e := vint.Get(b, place)
		if m != n || at != place+len(digits(n)) || e != api.OK {
			t.Fatalf("%d at %d: %d, %d, %v", n, place, m, at, e)
		}
		place = at
	}
	if m, at, e := vint.Get(b, place); place != len(b) || m != 0 || at != 0 || e != api.ErrForm {
		t.Errorf("at the end %d of %d: %d, %d, %v", place, len(b), m, at, e)
	}
}

// asked is what Get tells of bytes, worked out otherwise: of all beginnings the one whose number has these bytes.
func asked(b []byte) (int, int, bool) {
	for size := 1; size <= min(len(b), 9); size++ {
		n := new(big.Int)
		for i := size - 1; i >= 0; i-- {
			n.Lsh(n, 7).Or(n, big.NewInt(int64(b[i]&127)))
		}
		if n.IsInt64() && bytes.Equal(digits(int(n.Int64())), b[:size]) {
			return int(n.Int64()), size, true
		}
	}
	return 0, 0, false
}

// P4.1, Get: all bytes up to three, and some longer ones by chance.
func TestGetOfAll(t *testing.T) {
	ask := func(b []byte) {
		t.Helper()
		n, size, is := asked(b)
		want := api.OK
		if !is {
			want = api.ErrForm
		}
		if m, at, e := vint.Get(b, 0); m != n || at != size || e != want {
			t.Fatalf("Get(%v, 0) = %d, %d, %v; want %d, %d, %v", b, m, at, e, n, size, want)
		}
	}
	for n := range 1 << 8 {
		ask([]byte{byte(n)})
	}
	for n := range 1 << 16 {
		ask([]byte{byte(n >> 8), byte(n)})
	}
	edges := []byte{0, 1, 2, 63, 64, 126, 127, 128, 129, 192, 254, 255}
	for n := range 1 << 16 {
		for _, c := range edges {
			ask([]byte{byte(n >> 8), byte(n), c})
		}
	}
	pick := chance(41)
	for range 200000 {
		b := make([]byte, pick(13))
		for i := range b {
			b[i] = edges[pick(len(edges))]
			if pick(3) > 0 {
				b[i] |= 128
			}
		}
		ask(b)
	}
}

// P4.1, Get: a place that is none of 0 to b's length, whatever b has.
func TestGetOutside(t *testing.T) {
	for _, b := range append(around(), []byte{5}, []byte{172, 2}) {
		for _, at := range []int{math.MinInt, math.MinInt32, -2, -1, len(b) + 1, len(b) + 2, len(b) + 100, 1 << 31, 1 << 32, 1<<32 + 1, math.MaxInt} {
			if n, behind, e := vint.Get(b, at); n != 0 || behind != 0 || e != api.ErrArg {
				t.Errorf("Get(%v, %d) = %d, %d, %v", b, at, n, behind, e)
			}
			if l, behind, e := vint.GetRising(b, at); len(l) != 0 || behind != 0 || e != api.ErrArg {
				t.Errorf("GetRising(%v, %d) = %v, %d, %v", b, at, l, behind, e)
			}
		}
		if n, behind, e := vint.Get(b, len(b)); n != 0 || behind != 0 || e != api.ErrForm {
			t.Errorf("Get(%v) at the end: %d, %d, %v", b, n, behind, e)
		}
		if l, behind, e := vint.GetRising(b, len(b)); len(l) != 0 || behind != 0 || e != api.ErrForm {
			t.Errorf("GetRising(%v) at the end: %v, %d, %v", b, l, behind, e)
		}
	}
}

// P4.1, Get: bytes whose end is missing, a 0 too much at the end, and more than 9; behind the place alone, not ahead of it.
func TestGetOfWrongForm(t *testing.T) {
	high := bytes.Repeat([]byte{255}, 20)
	for _, b := range [][]byte{
		{}, {128}, {255}, {128, 128}, high[:8], high[:9], high[:10], high,
		{128, 0}, {255, 0}, {172, 0}, {128, 128, 0}, {129, 128, 0}, {172, 130, 0}, append(bytes.Clone(high[:8]), 0),
		append(bytes.Clone(high[:9]), 0), append(bytes.Clone(high[:9]), 1), append(bytes.Clone(high[:9]), 127), append(bytes.Clone(high[:10]), 1),
		append(bytes.Repeat([]byte{128}, 9), 1), append(bytes.Repeat([]byte{128}, 9), 0),
	} {
		for _, ahead := range around() {
			if n, at, e := vint.Get(slices.Concat(ahead, b), len(ahead)); n != 0 || at != 0 || e != api.ErrForm {
				t.Errorf("Get(%v) behind %v: %d, %d, %v", b, ahead, n, at, e)
			}
			if l, at, e := vint.GetRising(slices.Concat(ahead, b), len(ahead)); len(l) != 0 || at != 0 || e != api.ErrForm {
				t.Errorf("GetRising(%v) behind %v: %v, %d, %v", b, ahead, l, at, e)
			}
		}
	}
}

// P4.1, Get: each cut off of a number's bytes is missing its end.
func TestGetCutOff(t *testing.T) {
	for _, n := range numbers() {
		b := vint.Put([]byte{9}, n)
		for k := 1; k < len(b); k++ {
			if m, at, e := vint.Get(b[:k], 1); m != 0 || at != 0 || e != api.ErrForm {
				t.Fatalf("%d, cut off: Get(%v, 1) = %d, %d, %v", n, b[:k], m, at, e)
			}
		}
	}
}

// rising are lists that rise: ordinary ones, those at the edges, and some by chance.
func rising() [][]int {
	all := make([]int, 300)
	for i := range all {
		all[i] = i
	}
	l := [][]int{
		nil, {}, {0}, {1}, {127}, {128}, {most}, {0, 1}, {0, 128}, {0, 129}, {3, 4, 9}, {127, 255, 383}, {5, 1 << 31, 1 << 40},
		{0, most}, {most - 1, most}, {most - 2, most}, {1, most - 1, most}, {most / 2, most}, all, all[1:], all[:127], all[:128],
	}
	pick := chance(42)
	for k := range 40 {
		var r []int
		last := -1
		for range pick(60) {
			last += 1 + pick(1<<(k%31))
			r = append(r, last)
		}
		l = append(l, r)
	}
	return l
}

// written is rising numbers' bytes as the document tells them.
func written(l []int) []byte {
	b := digits(len(l))
	for i, n := range l {
		if i == 0 {
			b = append(b, digits(n)...)
		} else {
			b = append(b, digits(n-l[i-1]-1)...)
		}
	}
	return b
}

// P4.2, PutRising: bytes that are written out.
func TestPutRising(t *testing.T) {
	for _, c := range []struct {
		l    []int
		want []byte
	}{
		{nil, []byte{0}},
		{[]int{}, []byte{0}},
		{[]int{0}, []byte{1, 0}},
		{[]int{300}, []byte{1, 172, 2}},
		{[]int{3, 4, 9}, []byte{3, 3, 0, 4}},
		{[]int{0, 1, 2}, []byte{3, 0, 0, 0}},
		{[]int{0, 128, 257}, []byte{3, 0, 127, 128, 1}},
		{[]int{0, most}, []byte{2, 0, 255, 255, 255, 255, 255, 255, 255, 255, 63}},
		{[]int{math.MaxInt}, []byte{1, 255, 255, 255, 255, 255, 255, 255, 255, 127}},
		{[]int{0, math.MaxInt}, []byte{2, 0, 254, 255, 255, 255, 255, 255, 255, 255, 127}},
		{[]int{math.MaxInt - 1, math.MaxInt}, []byte{2, 254, 255, 255, 255, 255, 255, 255, 255, 127, 0}},
	} {
		for _, ahead := range around() {
			if b, e := vint.PutRising(ahead, c.l); !bytes.Equal(b, slices.Concat(ahead, c.want)) || e != api.OK {
				t.Errorf("PutRising(%v, %v) = %v, %v; want %v behind", ahead, c.l, b, e, c.want)
			}
		}
	}
}

// P4.2, P4.3: all these lists, whatever stands ahead and behind.
func TestPutRisingIsGot(t *testing.T) {
	for _, l := range rising() {
		for _, ahead := range around() {
			b, e := vint.PutRising(ahead, l)
			if !bytes.Equal(b, slices.Concat(ahead, written(l))) || e != api.OK {
				t.Fatalf("PutRising(%v, %v) = %v, %v", ahead, l, b, e)
			}
			for _, behind := range around() {
				if r, at, e := vint.GetRising(slices.Concat(b, behind), len(ahead)); !slices.Equal(r, l) || at != len(b) || e != api.OK {
					t.Fatalf("%v behind %v and ahead of %v: %v, %d, %v", l, ahead, behind, r, at, e)
				}
			}
		}
	}
}

// P4.2, PutRising: lists that do not rise, or begin below 0, whatever else stands in them.
func TestPutRisingRefuses(t *testing.T) {
	for _, l := range [][]int{
		{-1}, {math.MinInt}, {-1, 0}, {-1, 5, 6}, {math.MinInt, math.MaxInt}, {-2, -1}, {-3, -2, 0, 1},
		{0, 0}, {1, 1}, {2, 1}, {1, 0}, {0, -1}, {5, -5}, {5, math.MinInt}, {most, most}, {math.MaxInt, math.MaxInt},
		{math.MaxInt, 0}, {math.MaxInt, math.MinInt}, {math.MaxInt, 5, 6}, {0, 1, 2, 2}, {0, 1, 2, 1}, {0, 0, 1, 2}, {0, 5, 3, 9},
	} {
		for _, ahead := range around() {
			if b, e := vint.PutRising(ahead, l); len(b) != 0 || e != api.ErrArg {
				t.Errorf("PutRising(%v, %v) = %v, %v", ahead, l, b, e)
			}
		}
	}
	all := make([]int, 100)
	for i := range all {
		all[i] = i
	}
	for i := 1; i < len(all); i++ {
		l := slices.Clone(all)
		l[i] = l[i-1]
		if b, e := vint.PutRising([]byte{7}, l); len(b) != 0 || e != api.ErrArg {
			t.Errorf("one twice at %d: %v, %v", i, b, e)
		}
	}
}

// P4.2, GetRising: each cut off of a list's bytes is missing its end.
func TestGetRisingCutOff(t *testing.T) {
	for _, l := range rising() {
		b, _ := vint.PutRising([]byte{9, 9}, l)
		for k := 2; k < len(b); k++ {
			if r, at, e := vint.GetRising(b[:k], 2); len(r) != 0 || at != 0 || e != api.ErrForm {
				t.Fatalf("%v, cut off at %d: %v, %d, %v", l, k, r, at, e)
			}
		}
	}
}

// P4.2, GetRising: a number above 2^62, the first one or one behind; at 2^62 it is told.
func TestGetRisingAbove(t *testing.T) {
	row := func(l ...int) []byte {
		b := vint.Put([]byte{9}, len(l))
		for _, n := range l {
			b = vint.Put(b, n)
		}
		return append(b, 0)
	}
	for _, c := range []struct {
		more []int
		want []int
	}{
		{[]int{most}, []int{most}},
		{[]int{most + 1}, nil},
		{[]int{math.MaxInt}, nil},
		{[]int{most, 0}, nil},
		{[]int{most, math.MaxInt}, nil},
		{[]int{most - 1, 0}, []int{most - 1, most}},
		{[]int{most - 1, 1}, nil},
		{[]int{0, most - 1}, []int{0, most}},
		{[]int{0, most}, nil},
		{[]int{0, math.MaxInt}, nil},
		{[]int{1, math.MaxInt}, nil},
		{[]int{5, most - 7, 0}, []int{5, most - 1, most}},
		{[]int{5, most - 6, 0}, nil},
		{[]int{5, most - 7, 0, 0}, nil},
		{[]int{5, math.MaxInt, math.MaxInt, 3}, nil},
		{[]int{most / 2, most/2 - 1}, []int{most / 2, most}},
		{[]int{most / 2, most / 2}, nil},
	} {
		b := row(c.more...)
		l, at, e := vint.GetRising(b, 1)
		if c.want == nil {
			if len(l) != 0 || at != 0 || e != api.ErrForm {
				t.Errorf("of %v: %v, %d, %v", c.more, l, at, e)
			}
		} else if !slices.Equal(l, c.want) || at != len(b)-1 || e != api.OK {
			t.Errorf("of %v: %v, %d, %v", c.more, l, at, e)
		}
	}
	for _, l := range [][]int{{most + 1}, {0, most + 1}, {most, most + 1}, {math.MaxInt}, {0, math.MaxInt}} {
		b, e := vint.PutRising(nil, l)
		if r, at, f := vint.GetRising(b, 0); e != api.OK || len(r) != 0 || at != 0 || f != api.ErrForm {
			t.Errorf("%v: put %v, got %v, %d, %v", l, e, r, at, f)
		}
	}
}

// P4.2, GetRising: bytes of a wrong form within, and a count that no bytes can hold.
func TestGetRisingOfWrongForm(t *testing.T) {
	for _, b := range [][]byte{
		{1}, {2, 0}, {3, 3, 0}, {255, 255, 3, 1, 2, 3}, {1, 128, 0}, {2, 0, 128, 0}, {2, 128, 0, 0}, {1, 128}, {128, 0}, {129, 0, 5},
		append(bytes.Repeat([]byte{255}, 8), 127), append(bytes.Repeat([]byte{255}, 8), 127, 0, 0, 0), {255, 255, 255, 255, 255, 255, 255, 127, 1, 1},
		append(append([]byte{1}, bytes.Repeat([]byte{128}, 9)...), 1), append(append([]byte{2, 0}, bytes.Repeat([]byte{128}, 9)...), 1),
	} {
		for _, ahead := range around() {
			if l, at, e := vint.GetRising(slices.Concat(ahead, b), len(ahead)); len(l) != 0 || at != 0 || e != api.ErrForm {
				t.Errorf("GetRising(%v) behind %v: %v, %d, %v", b, ahead, l, at, e)
			}
		}
	}
}

// P4.2, GetRising: bytes by chance are told as what puts the same bytes, or not at all.
func TestGetRisingByChance(t *testing.T) {
	pick := chance(43)
	told := 0
	for range 200000 {
		b := make([]byte, 1+pick(24))
		for i := range b {
			b[i] = byte(pick(256))
			if pick(2) == 0 {
				b[i] %= 16
			}
		}
		l, at, e := vint.GetRising(b, 0)
		if e == api.OK {
			told++
			if !bytes.Equal(written(l), b[:at]) {
				t.Fatalf("GetRising(%v) = %v, %d", b, l, at)
			}
		} else if e != api.ErrForm || len(l) != 0 || at != 0 {
			t.Fatalf("GetRising(%v) = %v, %d, %v", b, l, at, e)
		}
	}
	if told < 1000 {
		t.Errorf("only %d were told", told)
	}
}

// R1: a number below 0, which the chapter does not hand in, ends all the same, and has no bytes.
func TestBelow(t *testing.T) {
	for _, n := range []int{-1, -127, -128, -129, math.MinInt32, math.MinInt} {
		b := []byte{1, 2, 3}
		p := vint.Put(b, n)
		if vint.Size(n) != 0 || !bytes.Equal(p, []byte{1, 2, 3}) || len(vint.Put(nil, n)) != 0 {
			t.Errorf("%d: size %d, %v", n, vint.Size(n), p)
		}
		if p[0] = 9; b[0] != 1 {
			t.Errorf("%d: Put answered what was handed in", n)
		}
	}
}

// R4: neither what is handed in is changed, nor its spare room; what is answered is new each time.
func TestNothingIsShared(t *testing.T) {
	room := []byte("ahead of spare room")
	for name, put := range map[string]func(b []byte) []byte{
		"Put":       func(b []byte) []byte { return vint.Put(b, 300) },
		"Put below": func(b []byte) []byte { return vint.Put(b, -300) },
		"PutRising": func(b []byte) []byte { b, _ = vint.PutRising(b, []int{1, 200, 3000}); return b },
		"none":      func(b []byte) []byte { b, _ = vint.PutRising(b, nil); return b },
		"refused":   func(b []byte) []byte { b, _ = vint.PutRising(b, []int{1, 200, 200}); return b },
	} {
		for k := range len(room) + 1 {
			own := bytes.Clone(room)
			a, b := put(own[:k]), put(own[:k])
			keep := bytes.Clone(b)
			for i := range a {
				a[i] = 77
			}
			if a = append(a, 78, 79); !bytes.Equal(own, room) || !bytes.Equal(b, keep) {
				t.Errorf("%s behind %d bytes: %q, %v", name, k, own, b)
			}
		}
	}
	l := []int{3, 4, 9, 9, 0}
	b, _ := vint.PutRising(nil, l[:3])
	a, _, _ := vint.GetRising(b, 0)
	c, _, _ := vint.GetRising(b, 0)
	a[0] = 50
	if a = append(a[:1], 7); !slices.Equal(c, l[:3]) || !slices.Equal(l, []int{3, 4, 9, 9, 0}) || !bytes.Equal(b, []byte{3, 3, 0, 4}) {
		t.Errorf("%v, %v, %v", c, l, b)
	}
}

// R5: what stands in spare room is not read.
func TestRoomIsNotRead(t *testing.T) {
	room := []byte{1, 172, 2, 0, 0}
	for k := range 3 {
		if l, at, e := vint.GetRising(room[:k], 0); len(l) != 0 || at != 0 || e != api.ErrForm {
			t.Errorf("of %d bytes: %v, %d, %v", k, l, at, e)
		}
	}
	if n, at, e := vint.Get(room[:2], 1); n != 0 || at != 0 || e != api.ErrForm {
		t.Errorf("Get: %d, %d, %v", n, at, e)
	}
}
