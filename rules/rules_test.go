package rules_test

import (
	"math"
	"strconv"
	"testing"

	"concordance/api"
	"concordance/cursor"
	"concordance/sched"
)

// DOC.md, Errors: each has its number, and tells it.
func TestErrors(t *testing.T) {
	for want, e := range []api.Errno{api.OK, api.ErrArg, api.ErrForm, api.ErrLong, api.ErrName, api.ErrTwice, api.ErrNone, api.ErrMany, api.ErrDeep, api.ErrQuery, api.ErrFull, api.ErrClosed, api.ErrState} {
		if int(e) != want {
			t.Errorf("the error %d has the number %d", want, int(e))
		}
	}
	for _, n := range []int{0, 1, 9, 10, 12, 99, 100, math.MaxInt} {
		var e error = api.Errno(n)
		if e.Error() != "error "+strconv.Itoa(n) {
			t.Errorf("%d: %q", n, e.Error())
		}
	}
}

// DOC.md, Limits and numbers; and what chapters 6 and 19 name.
func TestNumbers(t *testing.T) {
	for _, c := range []struct {
		name      string
		got, want int
	}{
		{"MaxName", api.MaxName, 12}, {"MaxFields", api.MaxFields, 8}, {"MaxWord", api.MaxWord, 30}, {"MaxWords", api.MaxWords, 500},
		{"MaxDeep", api.MaxDeep, 6}, {"MaxKids", api.MaxKids, 8}, {"MaxPhrase", api.MaxPhrase, 6}, {"Block", api.Block, 8}, {"MaxTasks", api.MaxTasks, 64},
		{"IsTerm", api.IsTerm, 1}, {"IsAnd", api.IsAnd, 2}, {"IsOr", api.IsOr, 3}, {"IsNot", api.IsNot, 4}, {"IsPhrase", api.IsPhrase, 5},
		{"Add", api.Add, 0}, {"Update", api.Update, 1}, {"Delete", api.Delete, 2}, {"Refresh", api.Refresh, 3}, {"Acquire", api.Acquire, 4},
		{"Search", api.Search, 5}, {"Release", api.Release, 6}, {"Close", api.Close, 7}, {"Kinds", api.Kinds, 8},
		{"End", cursor.End, 1 << 31}, {"Ready", sched.Ready, 0}, {"Waits", sched.Waits, 1}, {"Rests", sched.Rests, 2}, {"Ended", sched.Ended, 3},
	} {
		if c.got != c.want {
			t.Errorf("%s is %d, want %d", c.name, c.got, c.want)
		}
	}
}
