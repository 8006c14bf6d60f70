// Package marks keeps breakpoints and watches: both debuggers have the same (DOC.md, chapter 25).
package marks

import (
	"slices"

	"hindsight/api"
	"hindsight/cmd"
)

// Marks is the lines with breakpoints and the names that are watched.
type Marks struct {
	lines []int
	names []string
}

// Is reports whether a command sets or removes a mark.
func Is(x cmd.Cmd) bool {
	switch x.Kind {
	case 1, 2, 16, 17:
		return true
	}
	return false
}

// Do executes such a command; begins tells whether a stop begins on the line of the command.
func (m *Marks) Do(x cmd.Cmd, begins bool) api.Errno {
	line := int(x.N)
	err := api.OK
	switch x.Kind {
	case 1:
		if !begins {
			return api.EARG
		}
		m.lines = with(m.lines, line)
	case 2:
		m.lines, err = without(m.lines, line)
	case 16:
		m.names = with(m.names, x.Name)
	case 17:
		m.names, err = without(m.names, x.Name)
	}
	return err
}

func with[T comparable](l []T, x T) []T {
	if slices.Contains(l, x) {
		return l
	}
	return append(l, x)
}

func without[T comparable](l []T, x T) ([]T, api.Errno) {
	i := slices.Index(l, x)
	if i < 0 {
		return l, api.ENONE
	}
	return slices.Delete(l, i, i+1), api.OK
}

// On reports whether a line has a breakpoint.
func (m *Marks) On(line int) bool { return slices.Contains(m.lines, line) }

// Seen is the text of a watched name, if the name is in scope.
type Seen struct {
	Text  string
	There bool
}

// Look asks for the text of each watched name.
func (m *Marks) Look(text func(name string) (string, bool)) []Seen {
	var l []Seen
	for _, name := range m.names {
		s, ok := text(name)
		l = append(l, Seen{s, ok})
	}
	return l
}
