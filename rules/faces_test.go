package rules_test

import (
	"iter"

	"concordance/api"
	"concordance/bits"
	"concordance/buffer"
	"concordance/cursor"
	"concordance/dict"
	"concordance/doc"
	"concordance/erase"
	"concordance/history"
	"concordance/index"
	"concordance/lines"
	"concordance/match"
	"concordance/merge"
	"concordance/plain"
	"concordance/policy"
	"concordance/posting"
	"concordance/query"
	"concordance/sched"
	"concordance/score"
	"concordance/segment"
	"concordance/sign"
	"concordance/snap"
	"concordance/vint"
	"concordance/word"
)

// The calls and structs that the chapters list: this does not compile, if one of them is another.

// Chapter 01-sign.md.
var (
	_ func(string) []int  = sign.Signs
	_ func([]int) string  = sign.Text
	_ func(int) bool      = sign.Letter
	_ func(int) bool      = sign.Digit
	_ func(int) int       = sign.Fold
	_ func(string) string = sign.FoldText
)

// Chapter 02-word.md.
var (
	_ func(string) ([]api.Token, api.Errno) = word.Tokens
	_ func(string) []string                 = word.Words
	_ func(string) bool                     = word.May
	_ func(api.Term, api.Term) bool         = word.Less
	_ func(api.Term) string                 = word.Key
	_ func(string) (api.Term, bool)         = word.Term
)

// Chapter 03-bits.md.
var (
	_ func(int) *bits.Set                  = bits.New
	_ func(int) *bits.Set                  = bits.Full
	_ func(*bits.Set) int                  = (*bits.Set).Size
	_ func(*bits.Set, int) bool            = (*bits.Set).Put
	_ func(*bits.Set, int) bool            = (*bits.Set).Cut
	_ func(*bits.Set, int) bool            = (*bits.Set).Has
	_ func(*bits.Set) int                  = (*bits.Set).Count
	_ func(*bits.Set, int) int             = (*bits.Set).Next
	_ func(*bits.Set, int) int             = (*bits.Set).Rank
	_ func(*bits.Set) []int                = (*bits.Set).List
	_ func(*bits.Set) iter.Seq[int]        = (*bits.Set).All
	_ func(*bits.Set, *bits.Set) *bits.Set = (*bits.Set).And
	_ func(*bits.Set, *bits.Set) *bits.Set = (*bits.Set).Or
	_ func(*bits.Set) *bits.Set            = (*bits.Set).Not
	_ func(*bits.Set) *bits.Set            = (*bits.Set).Clone
)

// Chapter 04-vint.md.
var (
	_ func([]byte, int) []byte                  = vint.Put
	_ func([]byte, int) (int, int, api.Errno)   = vint.Get
	_ func(int) int                             = vint.Size
	_ func([]byte, []int) ([]byte, api.Errno)   = vint.PutRising
	_ func([]byte, int) ([]int, int, api.Errno) = vint.GetRising
)

// Chapter 05-posting.md.
var (
	_ func([]api.Posting) bool                       = posting.May
	_ func([]api.Posting) (*posting.List, api.Errno) = posting.Make
	_ func(*posting.List) int                        = (*posting.List).Len
	_ func(*posting.List) int                        = (*posting.List).Blocks
	_ func(*posting.List) []byte                     = (*posting.List).Bytes
	_ func(*posting.List, int) int                   = (*posting.List).Last
	_ func(*posting.List, int) []api.Posting         = (*posting.List).Block
	_ func(*posting.List) []api.Posting              = (*posting.List).All
	_ func(*posting.List) int                        = (*posting.List).Total
	_ func(int, []byte) (*posting.List, api.Errno)   = posting.Read
)

// Chapter 06-cursor.md.
var (
	_ func(*posting.List) *cursor.Cursor         = cursor.New
	_ func(*cursor.Cursor) int                   = (*cursor.Cursor).Doc
	_ func(*cursor.Cursor) []int                 = (*cursor.Cursor).Places
	_ func(*cursor.Cursor) int                   = (*cursor.Cursor).Count
	_ func(*cursor.Cursor) int                   = (*cursor.Cursor).Next
	_ func(*cursor.Cursor, int) int              = (*cursor.Cursor).Advance
	_ func(*cursor.Cursor) int                   = (*cursor.Cursor).Reads
	_ func(*posting.List) iter.Seq2[int, []int]  = cursor.All
	_ func(*cursor.Cursor, *cursor.Cursor) []int = cursor.Both
)

// Chapter 07-dict.md.
var (
	_ func([]string, []string) (*dict.Dict[string], api.Errno) = dict.Make[string]
	_ func(*dict.Dict[string]) int                             = (*dict.Dict[string]).Len
	_ func(*dict.Dict[string], int) (string, string)           = (*dict.Dict[string]).At
	_ func(*dict.Dict[string], string) (int, bool)             = (*dict.Dict[string]).Place
	_ func(*dict.Dict[string], string) (string, bool)          = (*dict.Dict[string]).Find
	_ func(*dict.Dict[string], string) (int, int)              = (*dict.Dict[string]).Prefix
	_ func(*dict.Dict[string], int) iter.Seq2[string, string]  = (*dict.Dict[string]).From
	_ func(*dict.Dict[string]) []string                        = (*dict.Dict[string]).Names
	_ func([][]string) []string                                = dict.Join
	_ func(int) int                                            = dict.Probes
)

// Chapter 08-doc.md.
var (
	_ func(string) bool                   = doc.Name
	_ func(api.Doc) api.Errno             = doc.May
	_ func(api.Doc) ([]api.Term, [][]int) = doc.Invert
	_ func(api.Doc, api.Term) bool        = doc.Has
	_ func(api.Doc, api.Term) int         = doc.Count
	_ func(api.Doc, string, []string) int = doc.Phrase
	_ func(api.Doc) int                   = doc.Weight
	_ func(api.Doc, api.Doc) bool         = doc.Same
	_ func(api.Doc) api.Doc               = doc.Clone
)

// Chapter 09-buffer.md.
var (
	_ func() *buffer.Buffer                      = buffer.New
	_ func(*buffer.Buffer, api.Entry) api.Errno  = (*buffer.Buffer).Add
	_ func(*buffer.Buffer) int                   = (*buffer.Buffer).Len
	_ func(*buffer.Buffer) int                   = (*buffer.Buffer).Words
	_ func(*buffer.Buffer) int                   = (*buffer.Buffer).Last
	_ func(*buffer.Buffer) []string              = (*buffer.Buffer).Keys
	_ func(*buffer.Buffer, string) []api.Posting = (*buffer.Buffer).Postings
	_ func(*buffer.Buffer) []api.Entry           = (*buffer.Buffer).Entries
	_ func(*buffer.Buffer) []api.Entry           = (*buffer.Buffer).Seal
)

// Chapter 10-segment.md.
var (
	_ = segment.Parts(struct {
		Ids, Seqs []int
		Keys      []string
		Lists     [][]api.Posting
	}{})
	_ func(segment.Parts) bool                          = segment.May
	_ func(segment.Parts) (*segment.Segment, api.Errno) = segment.Make
	_ func([]api.Entry) (*segment.Segment, api.Errno)   = segment.Build
	_ func(*segment.Segment) segment.Parts              = (*segment.Segment).Parts
	_ func(*segment.Segment) int                        = (*segment.Segment).Len
	_ func(*segment.Segment, int) int                   = (*segment.Segment).Id
	_ func(*segment.Segment, int) int                   = (*segment.Segment).Seq
	_ func(*segment.Segment) []string                   = (*segment.Segment).Keys
	_ func(*segment.Segment, string) []api.Posting      = (*segment.Segment).Postings
	_ func(*segment.Segment, api.Term) *cursor.Cursor   = (*segment.Segment).Cursor
	_ func(*segment.Segment, api.Term) int              = (*segment.Segment).Count
	_ func(*segment.Segment, int) int                   = (*segment.Segment).Above
	_ func(*segment.Segment) int                        = (*segment.Segment).Bytes
	_ func(*segment.Segment, *segment.Segment) bool     = segment.Same
)

// Chapter 11-merge.md.
var (
	_ func([]*segment.Segment, []*bits.Set) (*segment.Segment, api.Errno) = merge.Merge
	_ func([][]int) ([][2]int, api.Errno)                                 = merge.Order
	_ func([][2]int, int, int) []int                                      = merge.Places
)

// Chapter 12-query.md.
var (
	_ func(api.Query) api.Errno           = query.May
	_ func(api.Query) (string, api.Errno) = query.Print
	_ func(string) (api.Query, api.Errno) = query.Parse
	_ func(api.Query, api.Query) bool     = query.Same
	_ func(api.Query) []api.Term          = query.Terms
	_ func(api.Query) int                 = query.Deep
	_ func(api.Query, api.Doc) bool       = query.Fits
	_ func(api.Query, api.Doc) int        = query.Score
)

// Chapter 13-match.md.
var (
	_ func(*segment.Segment, api.Query) []api.Found            = match.Match
	_ func(*segment.Segment, *bits.Set, api.Query) []api.Found = match.Live
	_ func([]api.Found, []api.Found) []api.Found               = match.And
	_ func([]api.Found, []api.Found) []api.Found               = match.Or
	_ func([]api.Found, int) []api.Found                       = match.Not
	_ func([][]int) int                                        = match.Side
	_ func([]api.Found) int                                    = match.Count
)

// Chapter 14-score.md.
var (
	_ = score.Rank(struct {
		Id, Score, Seq int
	}{})
	_ func(score.Rank, score.Rank) bool      = score.Better
	_ func(int) *score.Top                   = score.New
	_ func(*score.Top, score.Rank) bool      = (*score.Top).Add
	_ func(*score.Top) int                   = (*score.Top).Len
	_ func(*score.Top) int                   = (*score.Top).Total
	_ func(*score.Top) (score.Rank, bool)    = (*score.Top).Worst
	_ func(*score.Top) []score.Rank          = (*score.Top).List
	_ func([]score.Rank, int) []score.Rank   = score.Best
	_ func([][]score.Rank, int) []score.Rank = score.Join
	_ func([]score.Rank) []api.Hit           = score.Hits
)

// Chapter 15-erase.md.
var (
	_ = erase.Erasure(struct {
		Term api.Term
		Seq  int
	}{})
	_ func() *erase.Queue                                    = erase.New
	_ func(*erase.Queue, erase.Erasure) api.Errno            = (*erase.Queue).Put
	_ func(*erase.Queue) int                                 = (*erase.Queue).Len
	_ func(*erase.Queue) []erase.Erasure                     = (*erase.Queue).List
	_ func(*erase.Queue, int) []erase.Erasure                = (*erase.Queue).Upto
	_ func(*erase.Queue, int) int                            = (*erase.Queue).Forget
	_ func(*segment.Segment, []erase.Erasure, int) *bits.Set = erase.Live
	_ func(*segment.Segment, erase.Erasure) []int            = erase.Taken
)

// Chapter 16-snap.md.
var (
	_ func() *snap.Store                                                     = snap.New
	_ func(*snap.Store, *segment.Segment) int                                = (*snap.Store).Put
	_ func(*snap.Store, int) (*segment.Segment, api.Errno)                   = (*snap.Store).Get
	_ func(*snap.Store, int) api.Errno                                       = (*snap.Store).Hold
	_ func(*snap.Store, int) (bool, api.Errno)                               = (*snap.Store).Drop
	_ func(*snap.Store, int) int                                             = (*snap.Store).Count
	_ func(*snap.Store) []int                                                = (*snap.Store).Held
	_ func(*snap.Store) []int                                                = (*snap.Store).Freed
	_ func(*snap.Store, []int, []erase.Erasure, int) (*snap.Snap, api.Errno) = (*snap.Store).Snap
	_ func(*snap.Snap) api.Errno                                             = (*snap.Snap).Hold
	_ func(*snap.Snap) (bool, api.Errno)                                     = (*snap.Snap).Drop
	_ func(*snap.Snap) int                                                   = (*snap.Snap).Upto
	_ func(*snap.Snap) int                                                   = (*snap.Snap).Segments
	_ func(*snap.Snap) int                                                   = (*snap.Snap).Docs
	_ func(*snap.Snap, int, api.Query) ([]score.Rank, api.Errno)             = (*snap.Snap).Part
	_ func(*snap.Snap, api.Query, int) ([]api.Hit, int, api.Errno)           = (*snap.Snap).Search
)

// Chapter 17-policy.md.
var (
	_ = policy.Run(struct {
		From, To int
	}{})
	_ func([]int, int, int) (policy.Run, bool) = policy.Pick
	_ func([]int, policy.Run) int              = policy.Weight
	_ func([]int, policy.Run) []int            = policy.After
	_ func([]int, int, int) []policy.Run       = policy.Plan
	_ func(int, int, int) int                  = policy.Rounds
)

// Chapter 18-plain.md.
var (
	_ func(int) *plain.Plain               = plain.New
	_ func(*plain.Plain, api.Op) api.Reply = (*plain.Plain).Do
	_ func(*plain.Plain) []api.Doc         = (*plain.Plain).Docs
	_ func(*plain.Plain) []api.Doc         = (*plain.Plain).Shown
	_ func(*plain.Plain) []int             = (*plain.Plain).Handles
	_ func(*plain.Plain) bool              = (*plain.Plain).Closed
	_ func(api.Reply, api.Reply) bool      = plain.Same
	_ func(api.Op) api.Errno               = plain.Check
)

// Chapter 19-sched.md.
var (
	_ func(int, int, int) *sched.Sched               = sched.New
	_ func(*sched.Sched) []int                       = (*sched.Sched).Ready
	_ func(*sched.Sched, int) (int, bool)            = (*sched.Sched).Pick
	_ func(*sched.Sched, int, int) (bool, api.Errno) = (*sched.Sched).Lock
	_ func(*sched.Sched, int, int) api.Errno         = (*sched.Sched).Unlock
	_ func(*sched.Sched, int, int, int) api.Errno    = (*sched.Sched).Wait
	_ func(*sched.Sched, int, int) api.Errno         = (*sched.Sched).Rest
	_ func(*sched.Sched, int) (int, api.Errno)       = (*sched.Sched).Wake
	_ func(*sched.Sched, int) api.Errno              = (*sched.Sched).End
	_ func(*sched.Sched, int) int                    = (*sched.Sched).State
	_ func(*sched.Sched, int) int                    = (*sched.Sched).Owner
	_ func(*sched.Sched, int) []int                  = (*sched.Sched).Row
	_ func(*sched.Sched) bool                        = (*sched.Sched).Stuck
)

// Chapter 20-index.md.
var (
	_ func(api.Limits, [][]api.Op) (*index.Index, api.Errno) = index.New
	_ func(*index.Index, int) (int, bool)                    = (*index.Index).Step
	_ func(*index.Index, []int, int) int                     = (*index.Index).Run
	_ func(*index.Index) []api.Call                          = (*index.Index).Calls
	_ func(*index.Index) int                                 = (*index.Index).Steps
	_ func(*index.Index) bool                                = (*index.Index).Idle
	_ func(*index.Index) bool                                = (*index.Index).Done
	_ func(*index.Index) int                                 = (*index.Index).Segments
	_ func(*index.Index) []int                               = (*index.Index).Held
	_ func(*index.Index) []int                               = (*index.Index).Freed
	_ func(*index.Index) []int                               = (*index.Index).Handles
	_ func(api.Limits, [][]api.Op) int                       = index.Most
)

// Chapter 21-history.md.
var (
	_ func(api.Call, api.Call) bool          = history.Ahead
	_ func([]api.Call) []int                 = history.Sequence
	_ func([]api.Call) []int                 = history.Pending
	_ func([]api.Call, int) []api.Reply      = history.Story
	_ func([]api.Call, int) (int, api.Errno) = history.Check
	_ func([]api.Call) int                   = history.Widest
)

// Chapter 22-lines.md.
var (
	_ func(int, int, int) api.Op                   = lines.Plan
	_ func([]byte) (api.Limits, [][]api.Op, []int) = lines.Script
	_ func(api.Call) string                        = lines.Line
	_ func([]byte) string                          = lines.Run
)
