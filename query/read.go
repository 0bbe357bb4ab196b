package query

import (
	"strings"

	"concordance/api"
)

// reader is a text that is read from its beginning on: what is left of it, and in how many queries it stands.
type reader struct {
	left string
	deep int
}

// query reads a query. It refuses one that is too deep by itself, ahead of May, as a text may be far deeper than one may call itself.
func (r *reader) query() (api.Query, bool) {
	r.deep++
	defer func() { r.deep-- }()
	if r.deep > api.MaxDeep {
		return api.Query{}, false
	}
	if r.take("(") {
		return r.parts()
	}
	field, ok := r.upto(":")
	if !ok {
		return api.Query{}, false
	}
	if r.take(`"`) {
		return r.phrase(field)
	}
	return api.Query{Kind: api.IsTerm, Term: api.Term{Field: field, Word: r.word()}}, true
}

// parts reads what stands behind a bracket. It reads no more kids than may be; where one more stands, the bracket that ends it does not.
func (r *reader) parts() (api.Query, bool) {
	name, ok := r.upto(" ")
	q := api.Query{Kind: named(name)}
	if !ok || q.Kind == 0 {
		return api.Query{}, false
	}
	for more := true; more; more = len(q.Kids) < api.MaxKids && r.take(" ") {
		kid, ok := r.query()
		if !ok {
			return api.Query{}, false
		}
		q.Kids = append(q.Kids, kid)
	}
	return q, r.take(")")
}

// phrase reads what stands behind a quotation mark. It cuts off no more words than one too many, which May refuses.
func (r *reader) phrase(field string) (api.Query, bool) {
	words, ok := r.upto(`"`)
	if !ok {
		return api.Query{}, false
	}
	return api.Query{Kind: api.IsPhrase, Term: api.Term{Field: field}, Words: strings.SplitN(words, " ", api.MaxPhrase+1)}, true
}

// word reads as far as a word may go: up to what stands behind a kid, or to the end.
func (r *reader) word() string {
	end := strings.IndexAny(r.left, " )")
	if end < 0 {
		end = len(r.left)
	}
	w := r.left[:end]
	r.left = r.left[end:]
	return w
}

// upto reads what stands ahead of a mark, and the mark.
func (r *reader) upto(mark string) (string, bool) {
	ahead, behind, ok := strings.Cut(r.left, mark)
	if ok {
		r.left = behind
	}
	return ahead, ok
}

// take reads a mark, if it is what is left begins with.
func (r *reader) take(mark string) bool {
	behind, ok := strings.CutPrefix(r.left, mark)
	if ok {
		r.left = behind
	}
	return ok
}

// named is the kind of a name; 0, if there is none.
func named(name string) int {
	for kind, s := range names {
		if s == name {
			return kind
		}
	}
	return 0
}
