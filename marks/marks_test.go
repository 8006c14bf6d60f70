package marks

import (
	"slices"
	"testing"

	"hindsight/api"
	"hindsight/cmd"
)

func TestMarks(t *testing.T) {
	var m Marks
	for i, c := range []struct {
		x      cmd.Cmd
		begins bool
		want   api.Errno
	}{
		{cmd.Cmd{Kind: 1, N: 3}, true, api.OK}, {cmd.Cmd{Kind: 1, N: 3}, true, api.OK}, {cmd.Cmd{Kind: 1, N: 4}, false, api.EARG}, {cmd.Cmd{Kind: 2, N: 4}, true, api.ENONE},
		{cmd.Cmd{Kind: 16, Name: "x"}, false, api.OK}, {cmd.Cmd{Kind: 17, Name: "y"}, true, api.ENONE}, {cmd.Cmd{Kind: 16, Name: "z"}, false, api.OK},
	} {
		if err := m.Do(c.x, c.begins); err != c.want || !Is(c.x) {
			t.Errorf("number %d: %d", i, err)
		}
	}
	if !m.On(3) || m.On(4) || Is(cmd.Cmd{Kind: 3}) || Is(cmd.Cmd{}) {
		t.Error("the marks are wrong")
	}
	l := m.Look(func(name string) (string, bool) { return name + "!", name == "x" })
	if !slices.Equal(l, []Seen{{"x!", true}, {"z!", false}}) {
		t.Errorf("Look is %v", l)
	}
	m.Do(cmd.Cmd{Kind: 2, N: 3}, false)
	m.Do(cmd.Cmd{Kind: 17, Name: "x"}, false)
	if m.On(3) || len(m.Look(func(string) (string, bool) { return "", true })) != 1 {
		t.Error("marks are not removed")
	}
}
