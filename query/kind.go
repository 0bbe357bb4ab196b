package query

import (
	"slices"
	"strings"

	"concordance/api"
	"concordance/doc"
	"concordance/word"
)

// names are the names of kinds whose queries have kids; others have none.
var names = [...]string{api.IsAnd: "and", api.IsOr: "or", api.IsNot: "not"}

// grade is whether a document fits, and how well. One that does not has the Score 0.
type grade struct {
	fits  bool
	score int
}

// kind is what queries of one kind must be, and do.
type kind struct {
	bare  func(q api.Query) bool                           // whether the fields that it does not have are zero
	may   func(q api.Query) api.Errno                      // whether those that it has may be, but for what its kids are
	text  func(q api.Query, kids []string) string          // its text, of those of its kids
	terms func(q api.Query) []api.Term                     // its own terms, in new memory
	grade func(q api.Query, d api.Doc, kids []grade) grade // how a document fits, of how it fits its kids
}

// kinds is all kinds.
func kinds() map[int]kind {
	return map[int]kind{
		api.IsTerm:   {bare: bareTerm, may: mayTerm, text: termText, terms: termTerms, grade: termGrade},
		api.IsPhrase: {bare: barePhrase, may: mayPhrase, text: phraseText, terms: phraseTerms, grade: phraseGrade},
		api.IsAnd:    {bare: bareKids, may: mayKids(api.MaxKids), text: kidsText, terms: noTerms, grade: kidsGrade(func(fit, all int) bool { return fit == all })},
		api.IsOr:     {bare: bareKids, may: mayKids(api.MaxKids), text: kidsText, terms: noTerms, grade: kidsGrade(func(fit, _ int) bool { return fit > 0 })},
		api.IsNot:    {bare: bareKids, may: mayKids(1), text: kidsText, terms: noTerms, grade: kidsGrade(func(fit, _ int) bool { return fit == 0 })},
	}
}

func bareTerm(q api.Query) bool {
	return len(q.Words) == 0 && len(q.Kids) == 0
}

func barePhrase(q api.Query) bool {
	return q.Term.Word == "" && len(q.Kids) == 0
}

func bareKids(q api.Query) bool {
	return q.Term == api.Term{} && len(q.Words) == 0
}

func mayTerm(q api.Query) api.Errno {
	if !doc.Name(q.Term.Field) {
		return api.ErrName
	}
	if !word.May(q.Term.Word) {
		return api.ErrQuery
	}
	return api.OK
}

// mayPhrase looks at all words, also at those that are too many, as a word that may not be is told ahead of that.
func mayPhrase(q api.Query) api.Errno {
	if !doc.Name(q.Term.Field) {
		return api.ErrName
	}
	if len(q.Words) == 0 || slices.ContainsFunc(q.Words, func(w string) bool { return !word.May(w) }) {
		return api.ErrQuery
	}
	if len(q.Words) > api.MaxPhrase {
		return api.ErrMany
	}
	return api.OK
}

// mayKids is what tells whether a query has kids, and at most so many.
func mayKids(most int) func(q api.Query) api.Errno {
	return func(q api.Query) api.Errno {
		if len(q.Kids) == 0 {
			return api.ErrQuery
		}
		if len(q.Kids) > most {
			return api.ErrMany
		}
		return api.OK
	}
}

func termText(q api.Query, _ []string) string {
	return q.Term.Field + ":" + q.Term.Word
}

func phraseText(q api.Query, _ []string) string {
	return q.Term.Field + `:"` + strings.Join(q.Words, " ") + `"`
}

func kidsText(q api.Query, kids []string) string {
	return "(" + names[q.Kind] + " " + strings.Join(kids, " ") + ")"
}

func termTerms(q api.Query) []api.Term {
	return []api.Term{q.Term}
}

func phraseTerms(q api.Query) []api.Term {
	var l []api.Term
	for _, w := range q.Words {
		l = append(l, api.Term{Field: q.Term.Field, Word: w})
	}
	return l
}

func noTerms(api.Query) []api.Term {
	return nil
}

func termGrade(q api.Query, d api.Doc, _ []grade) grade {
	n := doc.Count(d, q.Term)
	return grade{fits: n > 0, score: n}
}

func phraseGrade(q api.Query, d api.Doc, _ []grade) grade {
	n := doc.Phrase(d, q.Term.Field, q.Words)
	return grade{fits: n > 0, score: n}
}

// kidsGrade is all Scores of the kids, if enough of them fit. As kids that do not fit have the Score 0, so has one that asks for none that fits.
func kidsGrade(enough func(fit, all int) bool) func(q api.Query, d api.Doc, kids []grade) grade {
	return func(_ api.Query, _ api.Doc, kids []grade) grade {
		fit, score := 0, 0
		for _, k := range kids {
			if k.fits {
				fit++
			}
			score += k.score
		}
		if !enough(fit, len(kids)) {
			return grade{}
		}
		return grade{fits: true, score: score}
	}
}
