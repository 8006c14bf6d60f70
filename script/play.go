package script

import (
	"strconv"
	"strings"

	"hindsight/api"
	"hindsight/chars"
	"hindsight/cmd"
	"hindsight/cursor"
	"hindsight/debug"
)

// debugger is what a script is executed with: a *debug.Debugger or a *cursor.Cursor.
type debugger interface {
	Do(x cmd.Cmd) cursor.Reply
}

// play returns the output of all lines of a script.
func play(d debugger, text string) string {
	p := player{d: d}
	var out strings.Builder
	for _, line := range strings.Split(text, "\n") {
		if !blank(line) {
			out.WriteString(p.line(line))
			out.WriteByte('\n')
		}
	}
	return out.String()
}

func blank(line string) bool {
	for _, r := range line {
		if chars.Class(r) != 3 {
			return false
		}
	}
	return true
}

// player executes the lines of a script.
type player struct {
	d     debugger
	stuck stuck
}

// stuck is a command that the machine had no room for, and its reply; the Kind is 0 if the last
// command was not such a one.
type stuck struct {
	x     cmd.Cmd
	reply cursor.Reply
}

// line returns the output of a line.
func (p *player) line(s string) string {
	x, err := cmd.Parse(s)
	if err != api.OK {
		return "E" + strconv.Itoa(int(err))
	}
	r := p.do(x)
	if r.Err != api.OK {
		return "E" + strconv.Itoa(int(r.Err))
	}
	return strings.ReplaceAll(r.Text, "\n", "|")
}

// do executes a command. Only the machine may lack room: as nothing has changed then, it need not
// execute the same instructions once more if the next line is the same.
func (p *player) do(x cmd.Cmd) cursor.Reply {
	if p.stuck.x == x {
		return p.stuck.reply
	}
	r := p.d.Do(x)
	p.stuck = stuck{}
	if _, ok := p.d.(*debug.Debugger); ok && fault(r.Err) {
		p.stuck = stuck{x, r}
	}
	return r
}

func fault(err api.Errno) bool {
	return err == api.EHEAP || err == api.ESTACK || err == api.EFUEL
}
