package sign_test

import (
	"math"
	"slices"
	"strings"
	"testing"

	"concordance/sign"
)

// texts are ordinary ones, the edges of each length of a sign's bytes, and bytes that are not UTF-8.
func texts() []string {
	return []string{
		"", "a", "aZ09 _", "It's 3PM", "Käse, Öl und Spaß", "ÀÖ×ØÞß÷ÿ", "€uro", "日本語", "😀x",
		"\x00", "a\x00b", "\x7f", "\u0080", "\u07ff", "\u0800", "\ud7ff", "\ue000", "\ufffd", "\uffff", "\U00010000", "\U0010ffff",
		"\x80", "\xbf\xbf", "\xff", "a\xff", "\xffa", "\xc3", "\xc3A", "\xc3\xc4", "Ä\xc3", "\xc0\x80", "\xc1\xbf",
		"\xe2\x82", "\xe2\x82A", "\xe2\x82\xac", "\xe0\x80\x80", "\xe0\x9f\xbf", "\xed\xa0\x80", "\xed\xbf\xbf",
		"\xf0\x9f\x98", "\xf0\x9f\x98\x80", "\xf0\x8f\xbf\xbf", "\xf4\x90\x80\x80", "\xf5\x80\x80\x80", "\xfe\xff",
		strings.Repeat("Aä\xff", 1000),
	}
}

// edges are numbers beside which an answer changes, and numbers that are no characters at all.
func edges() []int {
	l := []int{math.MinInt, math.MinInt32, math.MaxInt32, math.MaxInt, 1<<32 + 'a', 1<<32 + 'A', 1<<32 + '0', 1<<32 + 192, -1<<32 + 'A'}
	for _, c := range []int{-32, 0, '0', '9', 'A', 'Z', 'a', 'z', 128, 160, 192, 214, 215, 216, 222, 223, 224, 246, 247, 248, 254, 255, 256, 591, 2048, 55296, 57343, 65533, 65536, 1114111} {
		l = append(l, c-1, c, c+1)
	}
	return l
}

// P1.1, Signs.
func TestSigns(t *testing.T) {
	const no = 65533
	for _, c := range []struct {
		s    string
		want []int
	}{
		{"", nil},
		{"aZ 0", []int{97, 90, 32, 48}},
		{"a\xff", []int{97, no}},
		{"\x00\x7f", []int{0, 127}},
		{"\u0080\u07ff", []int{128, 2047}},
		{"\u0800\ud7ff\ue000\uffff", []int{2048, 55295, 57344, 65535}},
		{"\U00010000\U0010ffff", []int{65536, 1114111}},
		{"\ufffd", []int{no}},
		{"ÄÖ€😀", []int{196, 214, 8364, 128512}},
		{"\x80\xbf", []int{no, no}},
		{"\xc3", []int{no}},
		{"\xc3A", []int{no, 65}},
		{"\xc3\xc3\x84", []int{no, 196}},
		{"\xe2\x82", []int{no, no}},
		{"\xe2\x82a", []int{no, no, 97}},
		{"\xe2\xe2\x82\xac", []int{no, 8364}},
		{"\xf0\x9f\x98", []int{no, no, no}},
		{"\xf0\x9f\x98b", []int{no, no, no, 98}},
		{"\xc0\x80", []int{no, no}},
		{"\xe0\x80\x80", []int{no, no, no}},
		{"\xed\xa0\x80", []int{no, no, no}},
		{"\xf0\x80\x80\x80", []int{no, no, no, no}},
		{"\xf4\x90\x80\x80", []int{no, no, no, no}},
		{"\xf8\x88\x80\x80\x80", []int{no, no, no, no, no}},
	} {
		if l := sign.Signs(c.s); !slices.Equal(l, c.want) {
			t.Errorf("Signs(%q) = %v, want %v", c.s, l, c.want)
		}
	}
}

// P1.1, Signs: as Go's conversion to runes has it.
func TestSignsOfAllPairs(t *testing.T) {
	for n := range 1 << 16 {
		for _, s := range []string{string([]byte{byte(n >> 8), byte(n)}), string([]byte{0xe2, byte(n >> 8), byte(n), 'a'})} {
			var want []int
			for _, r := range []rune(s) {
				want = append(want, int(r))
			}
			if l := sign.Signs(s); !slices.Equal(l, want) {
				t.Fatalf("Signs(%q) = %v, want %v", s, l, want)
			}
		}
	}
}

// P1.1, Text.
func TestText(t *testing.T) {
	for _, c := range []struct {
		l    []int
		want string
	}{
		{nil, ""},
		{[]int{}, ""},
		{[]int{97, 90, 0, 127}, "aZ\x00\x7f"},
		{[]int{128, 2047, 2048, 65535, 65536, 1114111}, "\u0080\u07ff\u0800\uffff\U00010000\U0010ffff"},
		{[]int{196, 8364, 128512}, "Ä€😀"},
		{[]int{-1, 0, 1}, "\ufffd\x00\x01"},
		{[]int{55295, 55296, 57343, 57344}, "\ud7ff\ufffd\ufffd\ue000"},
		{[]int{1114111, 1114112}, "\U0010ffff\ufffd"},
		{[]int{65532, 65533, 65534}, "\ufffc\ufffd\ufffe"},
		{[]int{math.MinInt, math.MaxInt, math.MinInt32, math.MaxInt32}, "\ufffd\ufffd\ufffd\ufffd"},
		{[]int{1<<32 + 97, -1<<32 + 97, 1 << 32}, "\ufffd\ufffd\ufffd"},
	} {
		if s := sign.Text(c.l); s != c.want {
			t.Errorf("Text(%v) = %q, want %q", c.l, s, c.want)
		}
	}
}

// P1.1, Letter and Digit: all characters, and far from them.
func TestLetterAndDigit(t *testing.T) {
	letters := map[int]bool{}
	for _, r := range "abcdefghijklmnopqrstuvwxyzABCDEFGHIJKLMNOPQRSTUVWXYZ" {
		letters[int(r)] = true
	}
	for c := 192; c <= 591; c++ {
		letters[c] = true
	}
	delete(letters, 215)
	delete(letters, 247)
	ask := func(c int) {
		if sign.Letter(c) != letters[c] {
			t.Errorf("Letter(%d) = %v", c, !letters[c])
		}
		if is := c >= 0 && c < 128 && strings.ContainsRune("0123456789", rune(c)); sign.Digit(c) != is {
			t.Errorf("Digit(%d) = %v", c, !is)
		}
	}
	for c := -1000; c <= 1114200; c++ {
		ask(c)
	}
	for _, c := range edges() {
		ask(c)
	}
}

// P1.1, Fold: the pairs are written out, all else stays.
func TestFold(t *testing.T) {
	upper := []rune("ABCDEFGHIJKLMNOPQRSTUVWXYZÀÁÂÃÄÅÆÇÈÉÊËÌÍÎÏÐÑÒÓÔÕÖØÙÚÛÜÝÞ")
	lower := []rune("abcdefghijklmnopqrstuvwxyzàáâãäåæçèéêëìíîïðñòóôõöøùúûüýþ")
	want := map[int]int{}
	for i, r := range upper {
		want[int(r)] = int(lower[i])
	}
	ask := func(c int) {
		w, ok := want[c]
		if !ok {
			w = c
		}
		if f := sign.Fold(c); f != w {
			t.Errorf("Fold(%d) = %d, want %d", c, f, w)
		}
	}
	for c := -1000; c <= 1114200; c++ {
		ask(c)
	}
	for _, c := range edges() {
		ask(c)
	}
}

// P1.1, FoldText.
func TestFoldText(t *testing.T) {
	for s, want := range map[string]string{
		"":             "",
		"It's 3PM":     "it's 3pm",
		"@AZ[`az{":     "@az[`az{",
		"ÀÖ×ØÞß÷ÿĀ":    "àö×øþß÷ÿĀ",
		"ÄB\xffC":      "äb\ufffdc",
		"\xc3A":        "\ufffda",
		"\xed\xa0\x80": "\ufffd\ufffd\ufffd",
		"\xe2\x82Q":    "\ufffd\ufffdq",
		"\x00€😀":       "\x00€😀",
	} {
		if f := sign.FoldText(s); f != want {
			t.Errorf("FoldText(%q) = %q, want %q", s, f, want)
		}
	}
	for _, s := range texts() {
		l := sign.Signs(s)
		for i, c := range l {
			l[i] = sign.Fold(c)
		}
		if f := sign.FoldText(s); f != sign.Text(l) {
			t.Errorf("FoldText(%q) = %q is not the text of the folded signs", s, f)
		}
	}
}

// P1.2: what is folded is folded as itself; a letter stays a letter.
func TestFoldedStays(t *testing.T) {
	ask := func(c int) {
		f := sign.Fold(c)
		if sign.Fold(f) != f {
			t.Errorf("Fold(%d) = %d is folded again", c, f)
		}
		if sign.Letter(c) != sign.Letter(f) || sign.Digit(c) != sign.Digit(f) {
			t.Errorf("Fold(%d) = %d is of another sort", c, f)
		}
	}
	for c := -1000; c <= 1114200; c++ {
		ask(c)
	}
	for _, c := range edges() {
		ask(c)
	}
	for _, s := range texts() {
		f := sign.FoldText(s)
		if g := sign.FoldText(f); g != f {
			t.Errorf("FoldText(%q) = %q is folded again: %q", s, f, g)
		}
	}
}

// P1.2: signs of a text of signs are these.
func TestSignsOfTextOfSigns(t *testing.T) {
	for _, s := range texts() {
		l := sign.Signs(s)
		if m := sign.Signs(sign.Text(l)); !slices.Equal(l, m) {
			t.Errorf("of %q: %v, then %v", s, l, m)
		}
	}
	var all []int
	for c := range 1114112 {
		if c < 55296 || c > 57343 {
			all = append(all, c)
		}
	}
	if !slices.Equal(sign.Signs(sign.Text(all)), all) {
		t.Error("not all characters come back")
	}
}

// R4: what is handed in is not changed, what is answered is new each time.
func TestNothingIsShared(t *testing.T) {
	room := []int{65, -1, 196, 7, 7}
	if s := sign.Text(room[:3]); s != "A\ufffdÄ" {
		t.Errorf("Text: %q", s)
	}
	if !slices.Equal(room, []int{65, -1, 196, 7, 7}) {
		t.Errorf("Text changed its argument: %v", room)
	}
	a, b := sign.Signs("abc"), sign.Signs("abc")
	a[0] = 0
	if a = append(a, 1); !slices.Equal(b, []int{97, 98, 99}) {
		t.Errorf("Signs answered one memory twice: %v", b)
	}
}
