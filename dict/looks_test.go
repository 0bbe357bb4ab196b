package dict

import (
	"slices"
	"strconv"
	"testing"

	"concordance/api"
)

// sizes are all small ones, and those about the powers of 2.
func sizes() []int {
	l := []int{}
	for n := range 70 {
		l = append(l, n)
	}
	return append(l, 127, 128, 129, 255, 256, 257, 1000, 1023, 1024, 1025)
}

// P7.3: a search finds each place, and where none is each gap, with no more looks than Probes tells, and none of them twice.
func TestSearchLooks(t *testing.T) {
	for _, n := range sizes() {
		most := 0
		for at := range 2*n + 1 { // the name i stands at 2*i+1, the gap ahead of it at 2*i
			var looks []int
			i, ok := search(n, func(i int) int {
				looks = append(looks, i)
				return 2*i + 1 - at
			})
			if i != at/2 || ok != (at%2 == 1) {
				t.Fatalf("of %d, at %d: %d, %v", n, at, i, ok)
			}
			if many := len(looks); many > Probes(n) {
				t.Fatalf("of %d, at %d: %d looks, may be %d", n, at, many, Probes(n))
			}
			most = max(most, len(looks))
			slices.Sort(looks)
			if len(slices.Compact(looks)) != len(looks) || n > 0 && (looks[0] < 0 || looks[len(looks)-1] >= n) {
				t.Fatalf("of %d, at %d: looks at %v", n, at, looks)
			}
		}
		if most != Probes(n) {
			t.Fatalf("of %d: %d looks at most, Probes tells %d", n, most, Probes(n))
		}
	}
}

// looked is how many names Place looks at, as its answer shows: each one is set, alone, to what leads astray who looks at it.
func looked(d *Dict[int], name string) int {
	place, is := d.Place(name)
	many := 0
	for i := range d.entries {
		keep := d.entries[i].name
		if keep < name {
			d.entries[i].name = "\xff\xff"
		} else {
			d.entries[i].name = ""
		}
		if p, ok := d.Place(name); p != place || ok != is {
			many++
		}
		d.entries[i].name = keep
	}
	return many
}

// P7.3: Place looks at no more names than Probes tells.
func TestPlaceLooks(t *testing.T) {
	for _, n := range sizes() {
		if n > 300 {
			continue
		}
		var names []string
		for i := range n {
			names = append(names, "n"+strconv.Itoa(10000+2*i))
		}
		d, e := Make(names, make([]int, n))
		if e != api.OK {
			t.Fatal(e)
		}
		most := 0
		for i := range 2*n + 1 {
			most = max(most, looked(d, "n"+strconv.Itoa(9999+i)))
		}
		if most > Probes(n) || n > 0 && most == 0 {
			t.Errorf("of %d names %d are looked at, may be %d", n, most, Probes(n))
		}
	}
}
