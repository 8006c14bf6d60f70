package names

import "testing"

func TestNames(t *testing.T) {
	for _, c := range []struct {
		s                 string
		lower, plain, con bool
	}{
		{"x", true, true, false}, {"_", true, false, false}, {"_a", true, true, false}, {"x'1", true, true, false},
		{"'x", false, false, false}, {"1x", false, false, false}, {"", false, false, false}, {"let", true, false, false},
		{"Let", false, false, true}, {"C", false, false, true}, {"C d", false, false, false}, {"λ", true, true, false},
		{"Λ", false, false, true}, {"x\xff", false, false, false}, {"lets", true, true, false}, {"x\n", false, false, false},
	} {
		if Lower(c.s) != c.lower || Plain(c.s) != c.plain || Con(c.s) != c.con {
			t.Errorf("%q: %v %v %v", c.s, Lower(c.s), Plain(c.s), Con(c.s))
		}
	}
}
