package chars

import "testing"

func TestClass(t *testing.T) {
	want := map[rune]int{
		'_': 1, '\'': 1, 'a': 1, 'Z': 1, 'ß': 1, 'λ': 1, '0': 2, '9': 2, '٣': 0,
		' ': 3, '\t': 3, '\n': 3, '\r': 3, '\v': 0, '\u00a0': 0,
		'.': 0, '/': 0, '"': 0, '@': 0, 0xfffd: 0, -1: 0, 0x7fffffff: 0,
	}
	for _, r := range "(),;=<>+-*|!:" {
		want[r] = 4
	}
	for r, class := range want {
		if got := Class(r); got != class {
			t.Errorf("P1.1: Class(%q) is %d, want %d", r, got, class)
		}
	}
}

func TestPos(t *testing.T) {
	for _, c := range []struct {
		s             string
		at, line, col int
	}{
		{"a\nbc", 3, 2, 2}, {"", 0, 1, 1}, {"", 9, 1, 1}, {"ab", -1, 1, 1}, {"ab", 9, 1, 3},
		{"a\n", 1, 1, 2}, {"a\n", 2, 2, 1}, {"\n\n", 2, 3, 1}, {"λx", 1, 1, 2}, {"λx", 2, 1, 2},
		{"λx", 3, 1, 3}, {"\xff\xfe", 2, 1, 3}, {"é\n\xffa", 5, 2, 3}, {"a\rb", 3, 1, 4},
	} {
		if line, col := Pos(c.s, c.at); line != c.line || col != c.col {
			t.Errorf("P1.1: Pos(%q, %d) is %d, %d", c.s, c.at, line, col)
		}
	}
}

func TestLine(t *testing.T) {
	for _, c := range []struct {
		s    string
		n    int
		want string
		ok   bool
	}{
		{"", 1, "", true}, {"", 2, "", false}, {"", 0, "", false}, {"a\nb", 1, "a", true},
		{"a\nb", 2, "b", true}, {"a\nb", 3, "", false}, {"a\n", 2, "", true}, {"a\n", 3, "", false},
		{"\n\n", 3, "", true}, {"\xff\r\nλ", 1, "\xff\r", true}, {"\xff\r\nλ", 2, "λ", true}, {"a", -5, "", false},
	} {
		if got, ok := Line(c.s, c.n); got != c.want || ok != c.ok {
			t.Errorf("P1.1: Line(%q, %d) is %q, %v", c.s, c.n, got, ok)
		}
	}
}

func TestRunesAndUpper(t *testing.T) {
	for _, c := range []struct {
		s     string
		runes int
		upper bool
	}{
		{"", 0, false}, {"Ab", 2, true}, {"aB", 2, false}, {"Λx", 2, true}, {"_A", 2, false},
		{"\xff\xfe", 2, false}, {"日", 1, false}, {"ǅ", 1, false}, {"a\nb", 3, false},
	} {
		if got := Runes(c.s); got != c.runes {
			t.Errorf("P1.1: Runes(%q) is %d", c.s, got)
		}
		if got := Upper(c.s); got != c.upper {
			t.Errorf("P1.1: Upper(%q) is %v", c.s, got)
		}
	}
}
