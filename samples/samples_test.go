package samples

import (
	"testing"

	"hindsight/api"
	"hindsight/image"
	"hindsight/source"
)

// TestAll makes sure that the texts are what they say.
func TestAll(t *testing.T) {
	l := Texts()
	for seed := range uint64(300) {
		l = append(l, Random(seed))
	}
	good := 0
	for _, s := range l {
		m, err, at := image.Build(s)
		if err == api.ELIMIT {
			continue
		}
		if err != api.OK {
			t.Errorf("%d at %d: %s", err, at, s)
			continue
		}
		good++
		x, _ := source.New(m.Tree, []int64{3, 4})
		x.Run(200000)
		if x.Over() == api.Going {
			t.Errorf("does not end: %s", s)
		}
	}
	if good < 200 {
		t.Errorf("only %d texts are small enough", good)
	}
}
