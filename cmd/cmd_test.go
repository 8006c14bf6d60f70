package cmd

import (
	"strings"
	"testing"

	"hindsight/api"
)

func TestParse(t *testing.T) {
	name40 := strings.Repeat("é", 40)
	for _, c := range []struct {
		s    string
		want Cmd
		show string
	}{
		{"break 12", Cmd{1, 12, ""}, "break 12"}, {"delete 1", Cmd{2, 1, ""}, "delete 1"}, {"step", Cmd{3, 1, ""}, "step 1"}, {"  step", Cmd{3, 1, ""}, "step 1"},
		{"step 007", Cmd{3, 7, ""}, "step 7"}, {"next", Cmd{4, 0, ""}, "next"}, {"finish", Cmd{5, 0, ""}, "finish"}, {"continue", Cmd{6, 0, ""}, "continue"},
		{"back", Cmd{7, 1, ""}, "back 1"}, {"back 999999999", Cmd{7, 999999999, ""}, "back 999999999"}, {"rnext\r\n", Cmd{8, 0, ""}, "rnext"},
		{"rcontinue", Cmd{9, 0, ""}, "rcontinue"}, {"goto 0", Cmd{10, 0, ""}, "goto 0"}, {"goto 000000005", Cmd{10, 5, ""}, "goto 5"},
		{"where", Cmd{11, 0, ""}, "where"}, {"\tlocals ", Cmd{12, 0, ""}, "locals"}, {"print x", Cmd{13, 0, "x"}, "print x"}, {"print\nlet", Cmd{13, 0, "let"}, "print let"},
		{"print _a'1", Cmd{13, 0, "_a'1"}, "print _a'1"}, {"backtrace", Cmd{14, 0, ""}, "backtrace"}, {"out", Cmd{15, 0, ""}, "out"},
		{"watch _", Cmd{16, 0, "_"}, "watch _"}, {"unwatch " + name40, Cmd{17, 0, name40}, "unwatch " + name40},
	} {
		got, err := Parse(c.s)
		if got != c.want || err != api.OK || Show(got) != c.show {
			t.Errorf("P24.1: Parse(%q) is %v, %d, shown as %q", c.s, got, err, Show(got))
		}
		if again, err := Parse(Show(got)); again != got || err != api.OK {
			t.Errorf("P24.1: Parse(%q) is %v, %d", Show(got), again, err)
		}
	}
	for _, s := range []string{
		"", " ", "x", "break", "break 0", "delete 00", "break x", "break -1", "break +1", "break 1 2", "step 0", "step 1234567890", "step 0000000001", "step 1x", "step x",
		"next 1", "finish x", "continue 1", "back 0", "goto", "goto -0", "where 1", "locals x", "print", "print X", "print 'a", "print 1", "print x y", "print a-b", "print a.b",
		"watch", "unwatch", "watch " + name40 + "a", "Step", "stepp", "st", "step\v2", "step\u00a02", "step \xff", "print \xff", "print ٣", "step ٣", "out out", "backtrace 1", "rnext 2",
	} {
		if got, err := Parse(s); got != (Cmd{}) || err != api.ESYNTAX {
			t.Errorf("P24.1: Parse(%q) is %v, %d", s, got, err)
		}
	}
}

func TestShow(t *testing.T) {
	for _, c := range []Cmd{
		{}, {0, 1, ""}, {-1, 0, ""}, {18, 0, ""}, {1, 0, ""}, {1, -1, ""}, {1, 1000000000, ""}, {1, 1, "x"}, {4, 1, ""}, {4, 0, "x"}, {10, -1, ""}, {13, 0, ""}, {13, 1, "x"},
		{13, 0, "X"}, {13, 0, "a b"}, {16, 0, "'"}, {17, 0, strings.Repeat("a", 41)}, {11, 0, " "}, {3, 0, ""},
	} {
		if got := Show(c); got != "" {
			t.Errorf("P24.1: Show(%v) is %q", c, got)
		}
	}
}

func TestForward(t *testing.T) {
	for kind := -1; kind < 20; kind++ {
		if got := Forward(Cmd{Kind: kind}); got != (kind >= 3 && kind <= 6) {
			t.Errorf("P24.1: Forward of kind %d is %v", kind, got)
		}
	}
}
