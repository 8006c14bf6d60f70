package script

import (
	"strconv"
	"strings"
	"testing"

	"hindsight/api"
	"hindsight/replay"
	"hindsight/samples"
)

var wide = replay.Opt{Room: api.MaxHeap, Stack: api.MaxStack, Fuel: api.MaxFuel, Every: 7, Most: 8}

// both executes a script with both debuggers, which must agree.
func both(t *testing.T, src string, input []int64, text string) string {
	t.Helper()
	a, err := Machine(src, input, wide, text)
	b, want := Model(src, input, api.MaxFuel, text)
	if err != want || a != b {
		t.Fatalf("P28.2: %s\n%s: %d, %s; want %d, %s", src, text, err, a, want, b)
	}
	if err != api.OK {
		t.Fatalf("%s: %d", src, err)
	}
	return a
}

func TestScripts(t *testing.T) {
	for _, c := range []struct{ src, text, want string }{
		{"print 1", "where\nstep", "#0 1:1\n#1 value ()\n"}, {"print 1", "", ""}, {"print 1", "\n \t\r\n\n", ""}, {"print 1", "where\n", "#0 1:1\n"},
		{"print 1", "where\r\n\r\n  step  2 \r\nback\n", "#0 1:1\n#1 value ()\n#0 1:1\n"},
		{"print 1", "foo\nstep 0\nback\nbreak 2\ndelete 1\nstep\nstep\nprint x\nout\nlocals", "E13\nE13\nE12\nE1\nE4\n#1 value ()\nE11\nE4\n1\n\n"},
		{"let x = 1 in let y = ref x in print 2", "step 2\nlocals\nprint y\nbacktrace", "#2 1:31\ny = ref 1|x = 1\nref 1\n\n"},
		{"let rec f x = if x = 0 then raise 5 else f (x - 1) in f 2", "step 6\nbacktrace\ncontinue\nwhere\nout", "#6 1:15\n1:42|1:42|1:55\n#8 raised 5\n#8 raised 5\n\n"},
		{"print 1", "\x00\n\xff\n\v", "E13\nE13\nE13\n"},
	} {
		if got := both(t, c.src, nil, c.text); got != c.want {
			t.Errorf("P28.1: %s: %q is %q, want %q", c.src, c.text, got, c.want)
		}
	}
}

func TestErrors(t *testing.T) {
	lines := strings.Repeat("\n", api.MaxLines-1)
	for i, c := range []struct {
		src, text      string
		machine, model api.Errno
	}{
		{"1", lines, api.OK, api.OK}, {"1", lines + "\n", api.ELIMIT, api.ELIMIT}, {"1", strings.Repeat(" ", api.MaxScript), api.OK, api.OK},
		{"1", strings.Repeat(" ", api.MaxScript+1), api.ELIMIT, api.ELIMIT}, {"1 +", lines + "\n", api.ELIMIT, api.ELIMIT}, {"1 +", "where", api.EFORM, api.EFORM},
		{"x", "", api.EOPEN, api.EOPEN}, {"1 1", "", api.ETYPE, api.ETYPE}, {"match 1 with 2 -> 3 end", "", api.ECOVER, api.ECOVER},
		{strings.Repeat(" ", 4001), "", api.ELIMIT, api.ELIMIT}, {"match 1 with 2 -> x end", "", api.EOPEN, api.EOPEN},
		{"let rec f x = f x in f 1", "", api.OK, api.EFUEL},
	} {
		got, err := Machine(c.src, nil, wide, c.text)
		if err != c.machine || err != api.OK && got != "" {
			t.Errorf("P28.1: number %d: Machine returns %d", i, err)
		}
		got, err = Model(c.src, nil, 5000, c.text)
		if err != c.model || err != api.OK && got != "" {
			t.Errorf("P28.1: number %d: Model returns %d", i, err)
		}
	}
	if _, err := Machine("1", nil, replay.Opt{}, ""); err != api.EARG {
		t.Errorf("P28.1: Machine without room returns %d", err)
	}
	if _, err := Machine("1", make([]int64, 201), wide, ""); err != api.EARG {
		t.Errorf("P28.1: Machine with too much input returns %d", err)
	}
	if _, err := Model("1", make([]int64, 201), 99, ""); err != api.EARG {
		t.Errorf("P28.1: Model with too much input returns %d", err)
	}
	if _, err := Model("1", nil, 0, ""); err != api.EFUEL {
		t.Errorf("P28.1: Model without steps returns %d", err)
	}
}

func TestType(t *testing.T) {
	for s, want := range map[string]string{"fun x -> x": "('a -> 'a)", "1": "int", "ref (fun x -> print x)": "((int -> unit) ref)", "type t = A in A": "t"} {
		if got, err := Type(s); got != want || err != api.OK {
			t.Errorf("P28.1: Type(%s) is %s, %d", s, got, err)
		}
	}
	for s, want := range map[string]api.Errno{"1 1": api.ETYPE, "x": api.EOPEN, "": api.EFORM, "match true with true -> 1 end": api.ECOVER, "1 & 2": api.EFORM, "A": api.EFORM,
		strings.Repeat("1+", 1000) + "1": api.ELIMIT} {
		if got, err := Type(s); got != "" || err != want {
			t.Errorf("P28.1: Type(%.20s) is %s, %d, want %d", s, got, err, want)
		}
	}
}

// TestFaults has a script whose commands fail for lack of room, more than once.
func TestFaults(t *testing.T) {
	src := "let rec f x = if x = 0 then 0 else 1 + f (x - 1) in f 300"
	o := replay.Opt{Room: 100, Stack: 60, Fuel: 1000, Every: 4, Most: 4}
	got, err := Machine(src, nil, o, "step 3\ncontinue\ncontinue\nwhere\ncontinue\nbreak 1\ncontinue\ngoto 500\ngoto 500\nback 9\nfinish")
	if want := "#3 1:40\nE9\nE9\n#3 1:40\nE9\nok\n#4 1:15\nE9\nE9\n#0 1:1\nE9\n"; got != want || err != api.OK {
		t.Errorf("P28.1: %q, %d, want %q", got, err, want)
	}
}

// TestAgree executes long random scripts with both debuggers.
func TestAgree(t *testing.T) {
	state := uint64(1)
	below := func(n int) int {
		state = state*6364136223846793005 + 1442695040888963407
		return int(state >> 33 % uint64(n))
	}
	words := []string{"step", "next", "finish", "continue", "back", "rnext", "rcontinue", "where", "locals", "backtrace", "out", "step N", "back N", "goto N", "break N",
		"delete N", "watch X", "unwatch X", "print X", "break N", "watch X", "back 500", "oops"}
	l := samples.Texts()
	for seed := range uint64(200) {
		l = append(l, samples.Random(1000+seed))
	}
	for _, src := range l {
		if _, err := Type(src); err != api.OK {
			continue
		}
		for range 3 {
			var text strings.Builder
			for range 50 {
				s := words[below(len(words))]
				s = strings.ReplaceAll(s, "N", strconv.Itoa(below(12)))
				s = strings.ReplaceAll(s, "X", []string{"x", "a", "v01", "v02", "v03", "r", "l", "n"}[below(8)])
				text.WriteString(s + "\n")
			}
			both(t, src, []int64{2, 5}, text.String())
		}
	}
}
