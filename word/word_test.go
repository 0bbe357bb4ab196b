package word_test

import (
	"math"
	"slices"
	"strings"
	"testing"

	"concordance/api"
	"concordance/sign"
	"concordance/word"
)

// texts are ordinary ones, edges of what is a letter, and bytes that are not UTF-8.
func texts() []string {
	return []string{
		"", " ", "a", "Z", "0", " .,", "It's 3PM", "b a b", "a-b_c", "  two\tblanks \n here ", "3PM4", "ABC abc AbC",
		"Käse, Öl und Spaß", "ÀÖ×ØÞß÷ÿ", "Āƀɏɐ", "ɏ", "ɐ", "€uro", "日本語 x", "a😀b", "²a³", "Ⅷ٣", "ªºµ",
		"\x00", "a\x00b", "\x00a\x00", "\x7fx", "\xff", "a\xffb", "\xffa", "a\xff", "\xc3", "a\xc3A", "\xc3\x84", "\xc3\xc3\x84",
		"\xe2\x82a", "\xc1\x81", "\xed\xa0\x80a", "x\ufffdy", "\U0010ffffq",
		strings.Repeat("A", 31), strings.Repeat("Ä", 16), strings.Repeat("a ", 501), strings.Repeat("aÄ9\xff", 1000),
	}
}

// wordSigns are the signs that stand in words, written out: it asks nothing of package sign.
func wordSigns() map[rune]rune {
	m := map[rune]rune{}
	for _, r := range "0123456789abcdefghijklmnopqrstuvwxyz" {
		m[r] = r
	}
	for r := rune(192); r <= 591; r++ {
		if r != 215 && r != 247 {
			m[r] = r
		}
	}
	upper := []rune("ABCDEFGHIJKLMNOPQRSTUVWXYZÀÁÂÃÄÅÆÇÈÉÊËÌÍÎÏÐÑÒÓÔÕÖØÙÚÛÜÝÞ")
	for i, r := range []rune("abcdefghijklmnopqrstuvwxyzàáâãäåæçèéêëìíîïðñòóôõöøùúûüýþ") {
		m[upper[i]] = r
	}
	return m
}

// simple is a text's words, told in another way: signs of no word become blanks, by which the text is cut.
func simple(s string, in map[rune]rune) []string {
	l := []rune(s)
	for i, r := range l {
		if f, ok := in[r]; ok {
			l[i] = f
		} else {
			l[i] = ' '
		}
	}
	return strings.Fields(string(l))
}

// P2.1, Words.
func TestWords(t *testing.T) {
	for _, c := range []struct {
		s    string
		want []string
	}{
		{"", nil},
		{" .,\t\n", nil},
		{"It's 3PM", []string{"it", "s", "3pm"}},
		{"b a b", []string{"b", "a", "b"}},
		{"X", []string{"x"}},
		{"end", []string{"end"}},
		{"end.", []string{"end"}},
		{" end", []string{"end"}},
		{"a-b_c", []string{"a", "b", "c"}},
		{"4you2", []string{"4you2"}},
		{"@AZ[`az{/09:", []string{"az", "az", "09"}},
		{"ÀÖ×ØÞß÷ÿ", []string{"àö", "øþß", "ÿ"}},
		{"\u00bfa\u00c0", []string{"a\u00e0"}},
		{"\u024f\u0250\u024f", []string{"\u024f", "\u024f"}},
		{"Āa", []string{"Āa"}},
		{"a\x00b", []string{"a", "b"}},
		{"a\xffb", []string{"a", "b"}},
		{"a\xc3B", []string{"a", "b"}},
		{"\xc3\x84\xc3\x84", []string{"ää"}},
		{"\xe2\x82a", []string{"a"}},
		{"\xc1\x81", nil},
		{"x\ufffdy", []string{"x", "y"}},
		{"日本a語", []string{"a"}},
		{"²٣Ⅷ", nil},
		{strings.Repeat("Q", 31) + " a", []string{strings.Repeat("q", 31), "a"}},
		{strings.Repeat("Q", 5000), []string{strings.Repeat("q", 5000)}},
	} {
		if l := word.Words(c.s); !slices.Equal(l, c.want) {
			t.Errorf("Words(%q) = %q, want %q", c.s, l, c.want)
		}
	}
	if l := word.Words(strings.Repeat("a ", 600)); len(l) != 600 {
		t.Errorf("of 600 words %d are told", len(l))
	}
}

// P2.1, Words: all characters, and all pairs of bytes, as they are told in another way.
func TestWordsOfAll(t *testing.T) {
	in := wordSigns()
	ask := func(s string) {
		if l, want := word.Words(s), simple(s, in); !slices.Equal(l, want) {
			t.Fatalf("Words(%q) = %q, want %q", s, l, want)
		}
	}
	for r := rune(0); r <= 1114111; r++ {
		ask("a" + string(r) + "B")
	}
	for n := range 1 << 16 {
		ask(string([]byte{byte(n >> 8), byte(n)}))
		ask(string([]byte{'a', byte(n >> 8), byte(n), 'Z'}))
	}
	for _, a := range texts() {
		for _, b := range texts() {
			ask(a + b)
		}
	}
}

// P2.1, Tokens: the words that Words tells, each with how many stand ahead of it.
func TestTokens(t *testing.T) {
	l, e := word.Tokens("b A b")
	if want := []api.Token{{Word: "b", At: 0}, {Word: "a", At: 1}, {Word: "b", At: 2}}; e != api.OK || !slices.Equal(l, want) {
		t.Errorf("Tokens(b A b) = %v, %v", l, e)
	}
	for _, s := range append(texts(), strings.Repeat("x ", 499), strings.Repeat("x ", 500), strings.Repeat("ÿ", 15)) {
		var want []api.Token
		for i, w := range word.Words(s) {
			want = append(want, api.Token{Word: w, At: i})
		}
		long := slices.ContainsFunc(want, func(k api.Token) bool { return len(k.Word) > 30 })
		l, e := word.Tokens(s)
		if long || len(want) > 500 {
			if len(l) != 0 || e == api.OK {
				t.Errorf("Tokens(%q) = %v, %v", s, l, e)
			}
		} else if e != api.OK || !slices.Equal(l, want) {
			t.Errorf("Tokens(%q) = %v, %v, want %v", s, l, e, want)
		}
	}
}

// P2.1, Tokens: the first error, as the words stand; of a word that is both, ErrLong.
func TestTokensErrors(t *testing.T) {
	many := func(n int) string { return strings.Repeat("a ", n) }
	long := strings.Repeat("x", 31)
	for _, c := range []struct {
		s    string
		many int
		want api.Errno
	}{
		{"", 0, api.OK},
		{strings.Repeat("x", 30), 1, api.OK},
		{strings.Repeat("X", 30) + "." + strings.Repeat("9", 30), 2, api.OK},
		{long, 0, api.ErrLong},
		{"a " + long, 0, api.ErrLong},
		{long + " a", 0, api.ErrLong},
		{"a " + long + " b", 0, api.ErrLong},
		{strings.Repeat("Ä", 15), 1, api.OK},
		{strings.Repeat("Ä", 15) + "x", 0, api.ErrLong},
		{strings.Repeat("x", 29) + "Ä", 0, api.ErrLong},
		{strings.Repeat("x", 28) + "Ä", 1, api.OK},
		{strings.Repeat("x", 30) + "\xff" + strings.Repeat("x", 30), 2, api.OK},
		{strings.Repeat("€", 100), 0, api.OK},
		{many(499), 499, api.OK},
		{many(500), 500, api.OK},
		{many(500) + " ..", 500, api.OK},
		{many(501), 0, api.ErrMany},
		{many(5000), 0, api.ErrMany},
		{many(499) + strings.Repeat("x", 30), 500, api.OK},
		{many(499) + long, 0, api.ErrLong},
		{many(500) + long, 0, api.ErrLong},
		{many(501) + long, 0, api.ErrMany},
		{long + " " + many(501), 0, api.ErrLong},
	} {
		if l, e := word.Tokens(c.s); len(l) != c.many || e != c.want {
			t.Errorf("Tokens(%q): %d words, %v; want %d, %v", c.s, len(l), e, c.many, c.want)
		}
	}
}

// P2.2, May.
func TestMay(t *testing.T) {
	for w, want := range map[string]bool{
		"": false, " ": false, "a": true, "z": true, "0": true, "9": true, "a1": true, "1a": true, "10": true,
		"A": false, "Z": false, "aB": false, "a b": false, " a": false, "a ": false, "it's": false, "a-b": false, "_": false, "@": false, "[": false, "`": false, "{": false, "/": false, ":": false,
		"\u00bf": false, "\u00c0": false, "\u00d6": false, "\u00d7": false, "\u00d8": false, "\u00de": false, "\u00df": true, "\u00e0": true, "\u00f6": true, "\u00f7": false, "\u00f8": true, "\u00fe": true, "\u00ff": true,
		"\u0100": true, "\u024f": true, "\u0250": false, "€": false, "日": false, "\ufffd": false,
		"\x00": false, "a\x00": false, "\x00a": false, "\xff": false, "a\xff": false, "\xffa": false, "\xc3": false, "a\xc3": false, "\xc3\xa4": true, "\xc3\x84": false, "\xc1\xa1": false,
		strings.Repeat("x", 29): true, strings.Repeat("x", 30): true, strings.Repeat("x", 31): false, strings.Repeat("x", 5000): false,
		strings.Repeat("ä", 15): true, strings.Repeat("ä", 15) + "x": false, strings.Repeat("x", 29) + "ä": false, strings.Repeat("ä", 16): false,
		strings.Repeat("x", 29) + "X": false, strings.Repeat("x", 29) + " ": false,
	} {
		if word.May(w) != want {
			t.Errorf("May(%q) = %v", w, !want)
		}
	}
}

// P2.2, May: what may be is what is told of a text as its one word, as it is.
func TestMayIsOneWord(t *testing.T) {
	ask := func(s string) {
		want := len(s) <= 30 && slices.Equal(word.Words(s), []string{s})
		if word.May(s) != want {
			t.Fatalf("May(%q) = %v", s, !want)
		}
		for _, w := range word.Words(s) {
			if word.May(w) != (len(w) <= 30) {
				t.Fatalf("May(%q) = %v: it is a word of %q", w, word.May(w), s)
			}
		}
	}
	for r := rune(0); r <= 1114111; r++ {
		ask(string(r))
	}
	for n := range 1 << 16 {
		ask(string([]byte{byte(n >> 8), byte(n)}))
		ask(string([]byte{'a', byte(n >> 8), byte(n)}))
	}
	for _, s := range texts() {
		ask(s)
	}
}

// P2.2, Key and Term.
func TestKey(t *testing.T) {
	for _, c := range []struct {
		t    api.Term
		want string
	}{
		{api.Term{}, "\x00"},
		{api.Term{Field: "t", Word: "b"}, "t\x00b"},
		{api.Term{Field: "t"}, "t\x00"},
		{api.Term{Word: "b"}, "\x00b"},
		{api.Term{Field: "T x", Word: "Ä\xff"}, "T x\x00Ä\xff"},
		{api.Term{Field: "t", Word: "a\x00b"}, "t\x00a\x00b"},
		{api.Term{Field: "t\x00a", Word: "b"}, "t\x00a\x00b"},
	} {
		if k := word.Key(c.t); k != c.want {
			t.Errorf("Key(%q) = %q, want %q", c.t, k, c.want)
		}
	}
}

func TestTerm(t *testing.T) {
	for _, c := range []struct {
		key  string
		want api.Term
		is   bool
	}{
		{"", api.Term{}, false},
		{"t", api.Term{}, false},
		{"t0b", api.Term{}, false},
		{"t\x01b \xff", api.Term{}, false},
		{"\x00", api.Term{}, true},
		{"t\x00", api.Term{Field: "t"}, true},
		{"\x00b", api.Term{Word: "b"}, true},
		{"t\x00b", api.Term{Field: "t", Word: "b"}, true},
		{"t\x00b\x00", api.Term{Field: "t", Word: "b\x00"}, true},
		{"\x00\x00", api.Term{Word: "\x00"}, true},
		{"t\x00a\x00b", api.Term{Field: "t", Word: "a\x00b"}, true},
		{"\xff\x00\xff", api.Term{Field: "\xff", Word: "\xff"}, true},
	} {
		if x, is := word.Term(c.key); x != c.want || is != c.is {
			t.Errorf("Term(%q) = %q, %v, want %q, %v", c.key, x, is, c.want, c.is)
		}
	}
}

// terms are all of these fields and words.
func terms(fields, words []string) []api.Term {
	var l []api.Term
	for _, f := range fields {
		for _, w := range words {
			l = append(l, api.Term{Field: f, Word: w})
		}
	}
	return l
}

// P2.2, Less: some in their row, each behind those ahead of it.
func TestLessInARow(t *testing.T) {
	row := []api.Term{
		{}, {Word: "\x00"}, {Word: "a"}, {Word: "\xff"},
		{Field: "\x01"},
		{Field: "T", Word: "z"},
		{Field: "t"}, {Field: "t", Word: "0"}, {Field: "t", Word: "a"}, {Field: "t", Word: "ab"}, {Field: "t", Word: "b"}, {Field: "t", Word: "ß"}, {Field: "t", Word: "\xff"},
		{Field: "t\x01"}, {Field: "ta", Word: "a"}, {Field: "tt", Word: "a"}, {Field: "u"}, {Field: "\x7f"}, {Field: "\x80"}, {Field: "\xff", Word: "a"},
	}
	for i, a := range row {
		for j, b := range row {
			if word.Less(a, b) != (i < j) {
				t.Errorf("Less(%q, %q) = %v", a, b, i >= j)
			}
		}
	}
}

// P2.2, Less: as the bytes of the keys are, also of fields that have a byte 0.
func TestLess(t *testing.T) {
	some := []string{"", "\x00", "\x00\x00", "\x01", "a", "a\x00", "a\x00a", "a\x01", "aa", "b", "B", "ä", "\x7f", "\x80", "\xff"}
	l := terms(some, some)
	for _, a := range l {
		for _, b := range l {
			ka, kb := []byte(a.Field+"\x00"+a.Word), []byte(b.Field+"\x00"+b.Word)
			if want := slices.Compare(ka, kb) < 0; word.Less(a, b) != want {
				t.Errorf("Less(%q, %q) = %v", a, b, !want)
			}
		}
	}
}

// P2.3: words of words with blanks between are these.
func TestWordsOfWords(t *testing.T) {
	for _, s := range texts() {
		l := word.Words(s)
		if m := word.Words(strings.Join(l, " ")); !slices.Equal(l, m) {
			t.Errorf("of %q: %q, then %q", s, l, m)
		}
		for _, w := range l {
			for _, c := range sign.Signs(w) {
				if !sign.Letter(c) && !sign.Digit(c) || sign.Fold(c) != c {
					t.Errorf("the word %q of %q has the sign %d", w, s, c)
				}
			}
		}
	}
}

// P2.3: of fields without a byte 0, keys are one where terms are, and tell these.
func TestKeysOfTerms(t *testing.T) {
	l := terms([]string{"", "a", "ab", "b", "\x01", "\xff", "t", "Ä"}, []string{"", "\x00", "\x00a", "a", "ab", "b", "a\x00b", "\xff"})
	for _, a := range l {
		if x, is := word.Term(word.Key(a)); x != a || !is {
			t.Errorf("Term(Key(%q)) = %q, %v", a, x, is)
		}
		for _, b := range l {
			if (word.Key(a) == word.Key(b)) != (a == b) {
				t.Errorf("keys of %q and %q: %q, %q", a, b, word.Key(a), word.Key(b))
			}
		}
	}
}

// R4, R5: what is answered is new each time, and the same each time.
func TestNothingIsShared(t *testing.T) {
	a, b := word.Words("x y z"), word.Words("x y z")
	a[0] = "changed"
	if a = append(a[:1], "w"); !slices.Equal(b, []string{"x", "y", "z"}) || !slices.Equal(word.Words("x y z"), b) {
		t.Errorf("Words answered one memory twice: %q", b)
	}
	k, _ := word.Tokens("x y z")
	m, _ := word.Tokens("x y z")
	k[0] = api.Token{Word: "changed", At: math.MaxInt}
	if k = append(k[:1], api.Token{}); !slices.Equal(m, []api.Token{{Word: "x"}, {Word: "y", At: 1}, {Word: "z", At: 2}}) {
		t.Errorf("Tokens answered one memory twice: %v", m)
	}
}
