package query_test

import (
	"regexp"
	"strings"
	"testing"

	"concordance/api"
	"concordance/query"
)

// Texts are held against another way to tell them: parts that are a query are replaced by how deep they are, from the lowest ones up, till nothing is left but that.
var (
	leafForm = regexp.MustCompile("[a-z]+:(?:" + wordForm + "|\"" + wordForm + "(?: " + wordForm + ")*\")")
	kidsForm = regexp.MustCompile("\\((?:and|or)(?: \x01[1-6]\x02){1,8}\\)|\\(not \x01[1-6]\x02\\)")
)

const wordForm = "[0-9a-z\u00df-\u00f6\u00f8-\u024f]+"

// isText tells whether a text is that of a query that may be.
func isText(s string) bool {
	if strings.ContainsAny(s, "\x01\x02") {
		return false
	}
	s = leafForm.ReplaceAllStringFunc(s, func(leaf string) string {
		field, rest, _ := strings.Cut(leaf, ":")
		l := strings.Split(strings.Trim(rest, "\""), " ")
		for _, w := range l {
			if len(w) > 30 {
				return leaf
			}
		}
		if len(field) > 12 || len(l) > 6 {
			return leaf
		}
		return "\x011\x02"
	})
	for {
		next := kidsForm.ReplaceAllStringFunc(s, func(part string) string {
			deep := byte('1')
			for i := range len(part) {
				if part[i] >= '1' && part[i] <= '6' {
					deep = max(deep, part[i])
				}
			}
			return "\x01" + string(rune(deep+1)) + "\x02"
		})
		if next == s {
			return len(s) == 3 && s[0] == 1 && s[1] >= '1' && s[1] <= '6' && s[2] == 2
		}
		s = next
	}
}

// askParse holds Parse's answer of a text against what isText tells.
func askParse(t *testing.T, s string) bool {
	t.Helper()
	q, e := query.Parse(s)
	if !isText(s) {
		if e != api.ErrForm || !equal(q, api.Query{}) {
			t.Fatalf("Parse(%q) = %v, %v, want ErrForm", s, q, e)
		}
		return false
	}
	if e != api.OK || query.May(q) != api.OK || text(q) != s {
		t.Fatalf("Parse(%q) = %v, %v", s, q, e)
	}
	return true
}

// P12.2, Parse: the query that it is.
func TestParse(t *testing.T) {
	a, b := term("t", "a"), term("u", "b")
	for s, want := range map[string]api.Query{
		"t:a": a, "abcdefghijkl:0": term("abcdefghijkl", "0"), "t:ÿ": term("t", "ÿ"), "t:" + strings.Repeat("x", 30): term("t", strings.Repeat("x", 30)), `t:"a"`: phrase("t", "a"), `t:"a b"`: phrase("t", "a", "b"), `t:"a b c d e f"`: phrase("t", "a", "b", "c", "d", "e", "f"),
		"(and t:a)": of(api.IsAnd, a), "(or t:a)": of(api.IsOr, a), "(not t:a)": of(api.IsNot, a), "(and t:a u:b)": of(api.IsAnd, a, b), "(or u:b t:a)": of(api.IsOr, b, a), `(not t:"a b")`: of(api.IsNot, phrase("t", "a", "b")),
		"and:or": term("and", "or"), "(or or:or not:and)": of(api.IsOr, term("or", "or"), term("not", "and")), `(and t:"a b" u:b t:"a")`: of(api.IsAnd, phrase("t", "a", "b"), b, phrase("t", "a")),
		"(or (and t:a u:b) (not u:b) t:a)": of(api.IsOr, of(api.IsAnd, a, b), of(api.IsNot, b), a), "(not (not (not (not (not t:a)))))": chain(a, 5, api.IsNot),
		"(or" + strings.Repeat(" t:a", 8) + ")": of(api.IsOr, a, a, a, a, a, a, a, a),
		// how deep it is is set back behind each kid
		"(and" + strings.Repeat(" (not (not (not (not t:a))))", 8) + ")": of(api.IsAnd, chain(a, 4, api.IsNot), chain(a, 4, api.IsNot), chain(a, 4, api.IsNot), chain(a, 4, api.IsNot), chain(a, 4, api.IsNot), chain(a, 4, api.IsNot), chain(a, 4, api.IsNot), chain(a, 4, api.IsNot)),
	} {
		if q, e := query.Parse(s); e != api.OK || !equal(q, want) {
			t.Errorf("Parse(%q) = %v, %v, want %v", s, q, e, want)
		}
		askParse(t, s)
	}
}

// P12.2, Parse: texts of no query.
func TestParseWrong(t *testing.T) {
	l := []string{
		"", " ", "t", ":", "a:", "t:a ", " t:a", "t:a\n", "t:a\x00", "\x00t:a", "t::a", "t:a:b", "t:a b", "t:a t:b", "t: a", "t :a", "T:a", "t:A", "t0:a", "t:a-b", "t:\xff", "\xff:a", "t:\xc3", "t:a\x01", "\x01", "t:×", "t:÷", "t:À", "t:\u0250",
		`t:"`, `t:""`, `t:" "`, `t:"a`, `t:a"`, `t:"a "`, `t:" a"`, `t:"a  b"`, `t:"a" `, `t:"a"b`, `t:"a""b"`, `t:""a"`, `"a"`, `:"a"`, `T:"a"`, `t:"A"`, `t:"a b`, `t:"a b c d e f g"`, `t:"a,b"`, "t:\"a\tb\"", `t:'a'`,
		"(", ")", "()", "( )", "(and", "(and ", "(and)", "(and )", "(and t:a", "(and t:a ", "(and t:a )", "(and  t:a)", "(and t:a  t:b)", "( and t:a)", "(and t:a))", "((and t:a))", "(t:a)", "(a t:a)", "(AND t:a)", "(And t:a)", "(xor t:a)", "(an t:a)", "(andt:a)", "(andand t:a)", "(and\tt:a)", "(and t:a) ", " (and t:a)", "(and t:a)t:b", "(and t:a) t:b", "(and t:at:b)", "(and t:a,t:b)", "(and t:a(or t:b))", "(and (or t:b)t:a)",
		"(not)", "(not )", "(not t:a t:b)", "(not t:a t:a t:a)", "(or)", "(or t:a (not))", "(or t:a (xor t:b))", "(or t:a (and t:b)", "not t:a", "(not not:)", "(and and)", "(and and:)", "(and (", "(and t:\"a b)", "(and t:\"a) b\")",
		"(and" + strings.Repeat(" t:a", 9) + ")", "(or" + strings.Repeat(" t:a", 9) + ")", "(or (and" + strings.Repeat(" t:a", 9) + "))", "(not (not (not (not (not (not t:a))))))", "(and t:a (not (not (not (not (not t:a))))))",
		"abcdefghijklm:a", "t:" + strings.Repeat("x", 31), `t:"a ` + strings.Repeat("x", 31) + `"`,
	}
	for _, s := range l {
		if askParse(t, s) {
			t.Errorf("%q", s)
		}
	}
	for _, name := range noNames() {
		askParse(t, name+":a")
		askParse(t, "(or t:a "+name+":\"a b\")")
	}
	for _, w := range noWords() {
		for _, s := range []string{"t:" + w, "t:\"" + w + "\"", "t:\"a " + w + "\"", "(and t:" + w + " t:a)", "(not t:\"" + w + " a\")"} {
			askParse(t, s)
		}
	}
}

// P12.2, Parse: all short texts of some pieces.
func TestParseShort(t *testing.T) {
	pieces := []string{"t", ":", "a", "\"", " ", "(and", "(or ", "(not ", ")", "t:a"}
	many := 0
	var ask func(s string, left int)
	ask = func(s string, left int) {
		if askParse(t, s) {
			many++
		}
		for _, p := range pieces {
			if left > 0 {
				ask(s+p, left-1)
			}
		}
	}
	ask("", 5)
	if many < 100 {
		t.Errorf("only %d are texts", many)
	}
}

// P12.2, Parse: texts of queries in which one byte is changed, or more, or less, or which are cut off.
func TestParseChanged(t *testing.T) {
	bytes := []byte("at:\" ()A0d\x00\xff\xc3")
	yes, no := 0, 0
	ask := func(s string) {
		if askParse(t, s) {
			yes++
		} else {
			no++
		}
	}
	for _, q := range queries()[:250] {
		s := text(q)
		if len(s) > 120 {
			continue
		}
		for i := range len(s) + 1 {
			ask(s[:i])
			ask(s[i:])
			for _, c := range bytes {
				ask(s[:i] + string([]byte{c}) + s[i:])
				if i < len(s) {
					ask(s[:i] + string([]byte{c}) + s[i+1:])
				}
			}
			if i < len(s) {
				ask(s[:i] + s[i+1:])
				ask(s[:i] + s[i:i+1] + s[i:])
			}
		}
	}
	if yes < 1000 || no < 1000 {
		t.Errorf("%d are texts, %d are none", yes, no)
	}
}

// P12.2, R1: of texts that are long, and far too deep, Parse ends.
func TestParseLong(t *testing.T) {
	const many = 300000
	for _, s := range []string{
		strings.Repeat("(", many), strings.Repeat("(not ", many), strings.Repeat("(not ", many) + "t:a" + strings.Repeat(")", many), "(and" + strings.Repeat(" t:a", many) + ")", "(and" + strings.Repeat(" (or t:a)", many) + ")",
		strings.Repeat("a", many) + ":a", "t:" + strings.Repeat("a", many), "t:\"" + strings.Repeat(" ", many) + "\"", "t:\"a" + strings.Repeat(" a", many) + "\"", strings.Repeat(":", many), strings.Repeat("\"", many), strings.Repeat("t:a ", many), "(and " + strings.Repeat(" ", many),
		"(" + strings.Repeat("x", many) + " t:a)", strings.Repeat(")", many), "t:a" + strings.Repeat(")", many), strings.Repeat("\xff", many),
	} {
		if q, e := query.Parse(s); e != api.ErrForm || !equal(q, api.Query{}) {
			t.Errorf("%.20q: %v, %v", s, q, e)
		}
	}
	s := text(full(8))
	if q, e := query.Parse(s); e != api.OK || !equal(q, full(8)) {
		t.Error("the full query", e)
	}
	if q, e := query.Parse("(not " + s + ")"); e != api.ErrForm || !equal(q, api.Query{}) {
		t.Error("the full query in one more", e)
	}
}
