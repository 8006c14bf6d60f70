package script

import (
	"strings"
	"testing"

	"hindsight/api"
	"hindsight/image"
	"hindsight/lex"
	"hindsight/samples"
	"hindsight/source"
)

// edited returns a text in which some tokens have been removed, doubled or replaced by others of it.
func edited(src string, below func(int) int) string {
	l, _, _ := lex.Lex(src)
	var words []string
	for _, w := range l {
		words = append(words, w.Text)
	}
	for range 1 + below(3) {
		i, j := below(len(words)), below(len(words))
		switch below(4) {
		case 0:
			words = append(words[:i:i], words[i+1:]...)
		case 1:
			words[i] = words[j]
		case 2:
			words[i], words[j] = words[j], words[i]
		case 3:
			words = append(words[:i:i], append([]string{words[j]}, words[i:]...)...)
		}
		if len(words) == 0 {
			return ""
		}
	}
	return strings.Join(words, " ")
}

// TestSoup edits programs at random: each text is rejected at a position, or executed alike by both
// debuggers, and never stuck.
func TestSoup(t *testing.T) {
	state := uint64(99)
	below := func(n int) int {
		state = state*6364136223846793005 + 1442695040888963407
		return int(state >> 33 % uint64(n))
	}
	l := samples.Texts()
	for seed := range uint64(60) {
		l = append(l, samples.Random(5000+seed))
	}
	counts := map[api.Errno]int{}
	for _, src := range l {
		for range 40 {
			s := edited(src, below)
			m, err, at := image.Build(s)
			counts[err]++
			if err != api.OK {
				if at < 0 || at > len(s) || m.Source != "" {
					t.Fatalf("T5: %s: %d at %d", s, err, at)
				}
				continue
			}
			x, _ := source.New(m.Tree, []int64{7})
			if x.Run(20000); x.Over() == api.Going {
				continue
			}
			if x.Over() == api.Raised && x.Error() == 0 && !strings.Contains(s, "raise") {
				t.Fatalf("T5: %s gets stuck", s)
			}
			both(t, s, []int64{7}, "step 3\nlocals\nnext\nfinish\nwatch a\nwatch x\ncontinue\nlocals\nbacktrace\ncontinue\nrcontinue\nrnext\nout\ngoto 5\nlocals\nstep 9999\nrcontinue\nout")
		}
	}
	for _, err := range []api.Errno{api.OK, api.EFORM, api.ETYPE, api.EOPEN} {
		if counts[err] < 20 {
			t.Errorf("T5: only %d texts with %d", counts[err], err)
		}
	}
}
