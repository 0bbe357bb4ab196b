package posting

import (
	"slices"
	"testing"

	"concordance/api"
)

// P5.3: a block is told without those ahead being read: these have no bytes here that could be.
func TestBlocksAheadAreNotRead(t *testing.T) {
	var want []api.Posting
	for i := range 45 {
		want = append(want, api.Posting{Doc: 200*i + i%7, Places: []int{i, i + 300}})
	}
	for k := range 6 {
		made, _ := Make(want)
		read, _ := Read(len(want), made.Bytes())
		for _, l := range []*List{made, read} {
			first := l.ahead(k).at
			for i := range first {
				l.bytes[i] = 255
			}
			block, own := l.Block(k), want[8*k:min(8*k+8, len(want))]
			if !slices.EqualFunc(block, own, func(p, q api.Posting) bool { return p.Doc == q.Doc && slices.Equal(p.Places, q.Places) }) {
				t.Errorf("block %d: %v, want %v", k, block, own)
			}
			if l.Last(k) != own[len(own)-1].Doc {
				t.Errorf("block %d: its last one is %d", k, l.Last(k))
			}
			if k > 0 && len(l.Block(0)) != 0 {
				t.Errorf("block %d: those ahead still have bytes that can be read", k)
			}
		}
	}
}
