package debug

import (
	"slices"
	"strconv"
	"testing"

	"hindsight/api"
	"hindsight/chars"
	"hindsight/cmd"
	"hindsight/cursor"
	"hindsight/image"
	"hindsight/replay"
	"hindsight/samples"
)

var input = []int64{3, -4}

// dice returns numbers that depend on the seed alone.
type dice struct{ state uint64 }

func (d *dice) below(n int) int {
	d.state = d.state*6364136223846793005 + 1442695040888963407
	return int(d.state >> 33 % uint64(n))
}

// command returns a command that may be of any kind.
func (d *dice) command(s string, end int64) cmd.Cmd {
	names := []string{"x", "n", "a", "v01", "v02", "r", "l", "f", "none"}
	c := cmd.Cmd{Kind: 1 + d.below(17)}
	switch c.Kind {
	case 1, 2:
		line, _ := chars.Pos(s, len(s))
		c.N = int64(1 + d.below(line+1))
	case 3, 7:
		c.N = int64(1 + d.below(6))
		if d.below(8) == 0 {
			c.N = end + 3
		}
	case 10:
		c.N = int64(d.below(int(min(end, 400)) + 2))
	case 13, 16, 17:
		c.Name = names[d.below(len(names))]
	}
	return c
}

func texts(many uint64) []string {
	l := samples.Texts()
	for seed := range many {
		l = append(l, samples.Random(seed))
	}
	return slices.DeleteFunc(l, func(s string) bool {
		_, err, _ := image.Build(s)
		return err != api.OK
	})
}

func model(t *testing.T, s string) *cursor.Cursor {
	t.Helper()
	m, _, _ := image.Build(s)
	c, err := cursor.New(m.Tree, m.Types, s, input, api.MaxFuel)
	if err != api.OK {
		t.Fatal(err)
	}
	return c
}

func isFault(err api.Errno) bool {
	return err == api.EHEAP || err == api.ESTACK || err == api.EFUEL
}

// reach returns the greatest count that a replay moves to.
func reach(t *testing.T, s string, o replay.Opt) int64 {
	t.Helper()
	m, _, _ := image.Build(s)
	r, err := replay.New(m, input, o)
	if err != api.OK {
		t.Fatal(err)
	}
	for r.To(r.Count()+1) == api.OK {
	}
	return r.Count()
}

// pair is a debugger and the reference debugger, which follows it.
type pair struct {
	t      *testing.T
	s      string
	d      *Debugger
	c      *cursor.Cursor
	done   []cmd.Cmd
	far    int64 // the greatest count before a fault
	most   int
	faults int
}

// do executes a command with both. A command that fails for lack of room must depend on what lies
// beyond the fault, and must have changed nothing.
func (p *pair) do(x cmd.Cmd) {
	p.t.Helper()
	kept := p.d.Kept()
	got := p.d.Do(x)
	if isFault(got.Err) {
		p.faults++
		if got.Text != "" || p.d.Count() != p.c.Count() || !slices.Equal(kept, p.d.Kept()) {
			p.t.Fatalf("P27.1: %s: %s fails with an effect", p.s, cmd.Show(x))
		}
		c := model(p.t, p.s)
		for _, y := range p.done {
			c.Do(y)
		}
		if r := c.Do(x); c.Count() <= p.far && r.Err != api.EARG {
			p.t.Fatalf("P27.2: %s: %s fails without need: %v", p.s, cmd.Show(x), got)
		}
		return
	}
	p.done = append(p.done, x)
	if want := p.c.Do(x); got != want || p.d.Count() != p.c.Count() {
		p.t.Fatalf("P27.1: %s: %s: %v at %d, want %v at %d", p.s, cmd.Show(x), got, p.d.Count(), want, p.c.Count())
	}
	if len(p.d.Kept()) > p.most {
		p.t.Fatalf("T4: %s: kept are %v", p.s, p.d.Kept())
	}
}

// TestReplies executes random commands.
func TestReplies(t *testing.T) {
	faults := 0
	for i, s := range texts(60) {
		for j, o := range []replay.Opt{
			{Room: 5000, Stack: 4000, Fuel: 100000, Every: int64(1 + i%7), Most: 2 + i%6},
			{Room: 40, Stack: 4000, Fuel: 100, Every: 3, Most: 3}, {Room: 5000, Stack: 50, Fuel: 100, Every: 2, Most: 4},
			{Room: 5000, Stack: 4000, Fuel: 20, Every: 1, Most: 64},
		} {
			d, err, _ := New(s, input, o)
			if isFault(err) {
				continue
			}
			if err != api.OK {
				t.Fatalf("%s: %d", s, err)
			}
			p := pair{t: t, s: s, d: d, c: model(t, s), far: reach(t, s, o), most: o.Most}
			dice := dice{uint64(i*2 + j)}
			for range 60 {
				p.do(dice.command(s, p.c.End()))
			}
			if j == 0 && p.faults > 0 {
				t.Fatalf("P27.1: %s: a fault in much room", s)
			}
			faults += p.faults
		}
	}
	if faults < 100 {
		t.Errorf("there are only %d faults", faults)
	}
}

// TestFault moves around before a fault.
func TestFault(t *testing.T) {
	s := "let rec f x =\n  if x = 0 then 0 else 1 + f (x - 1) in\nprint (f 2) ;\nprint (f 500)"
	o := replay.Opt{Room: 100, Stack: 100, Fuel: 1000, Every: 4, Most: 4}
	d, err, _ := New(s, input, o)
	if err != api.OK {
		t.Fatal(err)
	}
	p := pair{t: t, s: s, d: d, c: model(t, s), far: reach(t, s, o), most: o.Most}
	for _, k := range []string{
		"where", "step 1000", "where", "goto 900", "continue", "finish", "watch x", "continue", "continue", "break 4", "break 9", "continue", "continue", "continue",
		"where", "locals", "next", "next", "next", "back 3", "rnext", "rcontinue", "rcontinue", "goto 12", "goto 999999999", "step", "finish", "out", "backtrace",
		"print x", "print f", "step 20", "unwatch x", "delete 4", "continue", "rcontinue", "back", "goto 9", "next", "finish", "goto 0", "break 3", "continue", "next",
	} {
		x, _ := cmd.Parse(k)
		p.do(x)
	}
	if p.faults < 5 {
		t.Errorf("there are only %d faults", p.faults)
	}
}

func TestNew(t *testing.T) {
	o := replay.Opt{Room: 64, Stack: 64, Fuel: 100, Every: 1, Most: 2}
	for _, c := range []struct {
		s   string
		f   func(o *replay.Opt)
		err api.Errno
		at  int
	}{
		{"1 +", nil, api.EFORM, 3}, {"print true", nil, api.ETYPE, 6}, {" x", nil, api.EOPEN, 1}, {"1 ; match 2 with 2 -> 3 end", nil, api.ETYPE, 0},
		{"match 2 with 2 -> 3 end", nil, api.ECOVER, 0}, {"print 1", func(o *replay.Opt) { o.Most = 1 }, api.EARG, 0}, {"1 +", func(o *replay.Opt) { o.Most = 1 }, api.EFORM, 3},
		{"1 + 2 + 3", func(o *replay.Opt) { o.Fuel = 2 }, api.EFUEL, 0}, {"print 1", nil, api.OK, 0},
	} {
		k := o
		if c.f != nil {
			c.f(&k)
		}
		d, err, at := New(c.s, nil, k)
		if err != c.err || at != c.at || (d == nil) != (err != api.OK) {
			t.Errorf("P27.1: New of %s is %d, %d", c.s, err, at)
		}
	}
}

// TestCost compares with replay.Replay, by which Kept and Ran are defined.
func TestCost(t *testing.T) {
	s := "let rec f x = if x = 0 then 0 else 1 + f (x - 1) in print (f 30)"
	o := replay.Opt{Room: 100, Stack: 1000, Fuel: 1000, Every: 5, Most: 4}
	d, _, _ := New(s, nil, o)
	m, _, _ := image.Build(s)
	r, _ := replay.New(m, nil, o)
	for _, at := range []int64{40, 7, 8, 61, 3, 50} {
		d.Do(cmd.Cmd{Kind: 10, N: at})
		r.To(at)
		for kind := 11; kind < 16; kind++ {
			d.Do(cmd.Cmd{Kind: kind, Name: map[bool]string{true: "x"}[kind == 13]})
		}
		if d.Ran() != r.Ran() || !slices.Equal(d.Kept(), r.Kept()) || d.Count() != at {
			t.Errorf("P27.1: at %d: Ran is %d, want %d; kept are %v, want %v", at, d.Ran(), r.Ran(), d.Kept(), r.Kept())
		}
	}
}

// TestStepCost steps beyond the end: each instruction is executed once.
func TestStepCost(t *testing.T) {
	s := "let rec f x = if x = 0 then 0 else 1 + f (x - 1) in print (f 30)"
	o := replay.Opt{Room: 100, Stack: 1000, Fuel: 1000, Every: 50, Most: 4}
	d, _, _ := New(s, nil, o)
	m, _, _ := image.Build(s)
	r, _ := replay.New(m, nil, o)
	for r.To(r.Count()+1) == api.OK {
	}
	all := r.Machine().Ran()
	if got := d.Do(cmd.Cmd{Kind: 3, N: 99999}); got.Text != "#64 value ()" || d.Ran() != all {
		t.Errorf("T4: %v, %d instructions, want %d", got, d.Ran(), all)
	}
	d.Do(cmd.Cmd{Kind: 10})
	before := d.Ran()
	if d.Do(cmd.Cmd{Kind: 3, N: 99999}); d.Ran()-before >= all/2 {
		t.Errorf("T4: %d instructions in spite of a snapshot", d.Ran()-before)
	}
}

func TestExample(t *testing.T) {
	d, _, _ := New("print 1", nil, replay.Opt{Room: 64, Stack: 64, Fuel: 100, Every: 1, Most: 2})
	for i, want := range []string{"#0 1:1", "#1 value ()", "#0 1:1"} {
		x, _ := cmd.Parse([]string{"where", "step", "back"}[i])
		if got := d.Do(x); got.Text != want || got.Err != api.OK {
			t.Errorf("chapter 25: %s is %v", strconv.Itoa(i), got)
		}
	}
	for _, x := range []cmd.Cmd{{}, {Kind: 18}, {Kind: 13}, {Kind: 3}} {
		if got := d.Do(x); got != (cursor.Reply{Err: api.EARG}) {
			t.Errorf("P27.1: Do(%v) is %v", x, got)
		}
	}
}
