package debug

import (
	"strconv"
	"strings"

	"hindsight/api"
	"hindsight/cmd"
	"hindsight/cursor"
	"hindsight/info"
)

// position returns what the commands that move reply with.
func (d *Debugger) position() string {
	v := d.r.Live()
	s := "#" + strconv.FormatInt(d.Count(), 10) + " "
	switch v.Over() {
	case api.Value:
		text, _ := d.w.Result(v)
		return s + "value " + text
	case api.Raised:
		return s + "raised " + strconv.FormatInt(v.Error(), 10)
	case api.Starve:
		return s + "starve"
	}
	at, _ := d.w.Stop(v)
	return s + place(at)
}

func place(s info.Stop) string {
	return strconv.Itoa(s.Line) + ":" + strconv.Itoa(s.Col)
}

// show answers the commands that show the program.
func (d *Debugger) show(x cmd.Cmd) cursor.Reply {
	v := d.r.Live()
	switch x.Kind {
	case 12:
		return cursor.Reply{Text: strings.Join(d.w.Locals(v), "\n")}
	case 13:
		s, ok := d.w.Local(v, x.Name)
		if !ok {
			return fail(api.ENONE)
		}
		return cursor.Reply{Text: s}
	case 14:
		return cursor.Reply{Text: d.backtrace()}
	}
	var l []string
	for _, n := range v.Out() {
		l = append(l, strconv.FormatInt(n, 10))
	}
	return cursor.Reply{Text: strings.Join(l, ",")}
}

func (d *Debugger) backtrace() string {
	if d.atEnd() {
		return ""
	}
	var l []string
	for _, node := range d.r.Live().Calls() {
		l = append(l, place(d.places[node]))
	}
	return strings.Join(l, "\n")
}
