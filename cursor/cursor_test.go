package cursor

import (
	"strconv"
	"strings"
	"testing"

	"hindsight/api"
	"hindsight/cmd"
	"hindsight/infer"
	"hindsight/parse"
	"hindsight/tree"
)

func open(t *testing.T, s string, input ...int64) *Cursor {
	t.Helper()
	x, err, at := parse.Parse(s)
	if err != api.OK {
		t.Fatalf("%q: %d at %d", s, err, at)
	}
	types, err, at := infer.Infer(x)
	if err != api.OK {
		t.Fatalf("%q: %d at %d", s, err, at)
	}
	c, err := New(x, types, s, input, api.MaxFuel)
	if err != api.OK {
		t.Fatalf("%q: %d", s, err)
	}
	return c
}

// play executes commands, which are separated by semicolons, and writes the replies likewise.
func play(t *testing.T, c *Cursor, commands string) string {
	t.Helper()
	var l []string
	for _, s := range strings.Split(commands, ";") {
		x, err := cmd.Parse(s)
		if err != api.OK {
			t.Fatalf("%q is no command", s)
		}
		r := c.Do(x)
		if r.Err != api.OK {
			if r.Text != "" {
				t.Errorf("P25.2: %s: a text with an error", s)
			}
			r.Text = "E" + strconv.Itoa(int(r.Err))
		}
		l = append(l, strings.ReplaceAll(r.Text, "\n", "|"))
	}
	return strings.Join(l, ";")
}

const fact = "let rec f n =\n  if n = 0 then 1\n  else n * f (n - 1)\nin\nprint (f 2) ;\nf 1"

// The stops of fact are:
// 0 let rec 1:1, 1 print 5:1, 2 f 2 5:8, [3 if 2:3, 4 f 3:12, [5 if, 6 f, [7 if]]], 8 f 1 6:1, [9 if, 10 f, [11 if]], 12 the end.

func TestCommands(t *testing.T) {
	for i, c := range []struct{ s, commands, want string }{
		{"print 1", "where;step;back;back;step;step", "#0 1:1;#1 value ();#0 1:1;E12;#1 value ();E11"},
		{"1", "where;step;next;finish;continue;back;rnext;rcontinue;goto 0;goto 1;locals;backtrace;out;print x",
			"#0 value 1;E11;E11;E11;E11;E12;E12;E12;#0 value 1;E1;;;;E4"},
		{"raise (0 - 4)", "step 9;where", "#1 raised -4;#1 raised -4"}, {"read + read + read", "where;step 2;step;back", "#0 1:1;#2 1:15;#3 starve;#2 1:15"},
		{fact, "goto 12;goto 13;where;goto 7;goto 0", "#12 value 1;E1;#12 value 1;#7 2:3;#0 1:1"},
		{fact, "step 4;locals;backtrace;print n;print f;print m", "#4 3:12;n = 2|f = <fun>;5:8;2;<fun>;E4"},
		{fact, "step 7;backtrace;locals;back 2;print n;step 100;back 100", "#7 2:3;3:12|3:12|5:8;n = 0|f = <fun>;#5 2:3;1;#12 value 1;#0 1:1"},
		{fact, "goto 12;locals;backtrace;print f;out;goto 7;out;goto 8;out", "#12 value 1;;;E4;2;#7 2:3;;#8 6:1;2"},
		{fact, "next;next;next;next;next", "#1 5:1;#2 5:8;#8 6:1;#12 value 1;E11"},
		{fact, "goto 3;next;next;goto 3;finish;goto 5;finish;finish;goto 2;finish", "#3 2:3;#4 3:12;#8 6:1;#3 2:3;#8 6:1;#5 2:3;#8 6:1;#12 value 1;#2 5:8;#12 value 1"},
		{fact, "goto 7;finish;goto 7;next", "#7 2:3;#8 6:1;#7 2:3;#8 6:1"},
		{fact, "goto 12;rnext;rnext;rnext;rnext;rnext;goto 7;rnext;rnext;goto 5;rnext;rnext", "#12 value 1;#8 6:1;#2 5:8;#1 5:1;#0 1:1;E12;#7 2:3;#6 3:12;#5 2:3;#5 2:3;#4 3:12;#3 2:3"},
		{fact, "break 3;continue;continue;continue;continue;continue;rcontinue;rcontinue;rcontinue;rcontinue;rcontinue",
			"ok;#4 3:12;#6 3:12;#10 3:12;#12 value 1;E11;#10 3:12;#6 3:12;#4 3:12;#0 1:1;E12"},
		{fact, "break 4;break 9;break 1;break 1;delete 1;delete 1;delete 5;break 5;continue;continue;rcontinue;rcontinue", "E1;E1;ok;ok;ok;E4;E4;ok;#1 5:1;#2 5:8;#1 5:1;#0 1:1"},
		{fact, "watch n;continue;continue;continue;continue;continue;continue;continue;rcontinue;rcontinue",
			"ok;#3 2:3;#5 2:3;#7 2:3;#8 6:1;#9 2:3;#11 2:3;#12 value 1;#11 2:3;#9 2:3"},
		{fact, "watch q;watch f;continue;unwatch f;unwatch f;continue;rcontinue", "ok;ok;#1 5:1;ok;E4;#12 value 1;#0 1:1"},
		{"let r = ref 1 in\nlet s = ref r in\n(r := 2 ;\nlet t = r in\n(s := ref 7 ;\nprint (! r)))",
			"goto 2;locals;step;locals;step;locals;step;locals;watch s;rcontinue;rcontinue;rcontinue",
			"#2 3:2;s = ref ref 1|r = ref 1;#3 4:1;s = ref ref 2|r = ref 2;#4 5:2;t = ref 2|s = ref ref 2|r = ref 2;#5 6:1;t = ref 2|s = ref ref 7|r = ref 2;ok;#3 4:1;#2 3:2;#0 1:1"},
		{"type l = N | C of int, l in let x = C (1, N) in match x with N -> print 0 | C (a, b) -> print a end", "step;locals;step;locals;step",
			"#1 1:49;x = C (1, N);#2 1:89;b = N|a = 1|x = C (1, N);#3 value ()"},
		{"let id = fun x -> print 1 in let k = fun y -> id y in k ()", "goto 3;locals;step;locals;step", "#3 1:47;y = <poly>|id = <fun>;#4 1:19;x = <poly>;#5 value ()"},
		{"try let x = 3 in raise x with e -> print e end", "goto 3;locals;back;locals", "#3 1:36;e = 3;#2 1:18;x = 3"},
		{"let a = 1 in let f = fun x -> print x in f a", "goto 3;locals;backtrace;print a", "#3 1:31;x = 1;1:42;E4"},
		{"print read ; print read ; print 9", "goto 4;out;back;out;step 100;out", "#4 1:27;5,-6;#3 1:20;5;#5 value ();5,-6,9"},
	} {
		x := open(t, c.s, 5, -6)
		if got := play(t, x, c.commands); got != c.want {
			t.Errorf("P25.2: number %d: %s\n got %s\nwant %s", i, c.commands, got, c.want)
		}
	}
}

func TestNew(t *testing.T) {
	x, _, _ := parse.Parse("1 + 2")
	types, _, _ := infer.Infer(x)
	for i, c := range []struct {
		t     tree.Tree
		input []int64
		most  int64
		want  api.Errno
	}{
		{x, nil, 100, api.OK}, {tree.Tree{}, nil, 100, api.EARG}, {x, make([]int64, 201), 100, api.EARG}, {x, []int64{1 << 62}, 100, api.EARG},
		{x, nil, 0, api.EFUEL}, {x, nil, -5, api.EFUEL}, {x, nil, 1, api.EFUEL}, {x, nil, 1 << 60, api.OK}, {tree.Tree{}, nil, 0, api.EARG},
	} {
		cur, err := New(c.t, types, "1 + 2", c.input, c.most)
		if err != c.want || (cur == nil) != (err != api.OK) {
			t.Errorf("P25.1: number %d: New returns %d", i, err)
		}
	}
	loop, _, _ := parse.Parse("let rec f x = f x in f 1")
	types, _, _ = infer.Infer(loop)
	if _, err := New(loop, types, "", nil, 1<<60); err != api.EFUEL {
		t.Errorf("P25.1: New of a program without an end returns %d", err)
	}
	c := open(t, fact)
	if c.Count() != 0 || c.End() != 12 {
		t.Errorf("P25.1: Count is %d, End %d", c.Count(), c.End())
	}
	play(t, c, "goto 5")
	if c.Count() != 5 {
		t.Errorf("P25.1: Count is %d", c.Count())
	}
	// Types that are not those of the tree are wrong, but do no harm.
	bare, _ := New(loop, infer.Types{}, "", nil, 0)
	if bare != nil {
		t.Error("P25.1: New without an end")
	}
	y, _, _ := parse.Parse("let x = ref 1 in print (! x)")
	odd, err := New(y, infer.Types{}, "", nil, 1000)
	if err != api.OK {
		t.Fatal(err)
	}
	play(t, odd, "step;locals;print x;step")
}

func TestBadCommands(t *testing.T) {
	c := open(t, fact)
	for _, x := range []cmd.Cmd{{}, {Kind: 18}, {Kind: 3}, {Kind: 3, N: -1}, {Kind: 10, N: -1}, {Kind: 13}, {Kind: 13, Name: "X"}, {Kind: 11, N: 1}, {Kind: 1, N: 0}} {
		if r := c.Do(x); r.Err != api.EARG || r.Text != "" || c.Count() != 0 {
			t.Errorf("P25.2: Do(%v) is %v", x, r)
		}
	}
}

// TestDeep has many active calls and many cells.
func TestDeep(t *testing.T) {
	c := open(t, "let rec f n = if n = 0 then 0 else let r = ref n in (r := ! r + 1 ; 1 + f (n - 1)) in f 20000")
	if c.End() < 60000 {
		t.Fatalf("End is %d", c.End())
	}
	if got := play(t, c, "watch r;continue;continue;continue;goto 60000;rcontinue;print r;finish"); !strings.HasPrefix(got, "ok;#") {
		t.Error(got)
	}
}
