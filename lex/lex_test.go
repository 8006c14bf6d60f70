package lex

import (
	"strconv"
	"strings"
	"testing"

	"hindsight/api"
)

func show(l []Word) string {
	var b strings.Builder
	for _, w := range l {
		b.WriteString(strconv.Itoa(w.Kind) + ":" + w.Text + "@" + strconv.Itoa(w.From) + "-" + strconv.Itoa(w.To) + " ")
	}
	return strings.TrimSpace(b.String())
}

func TestTokens(t *testing.T) {
	for _, c := range []struct{ s, want string }{
		{"", ""}, {" \t\r\n", ""},
		{"let x = 1", "4:let@0-3 2:x@4-5 5:=@6-7 1:1@8-9"},
		{"12ab", "1:12@0-2 2:ab@2-4"},
		{"a12'b_ C1'", "2:a12'b_@0-6 3:C1'@7-10"},
		{"_ _x Éa éa", "2:_@0-1 2:_x@2-4 3:Éa@5-8 2:éa@9-12"},
		{"lets let' rec", "2:lets@0-4 2:let'@5-9 4:rec@10-13"},
		{"->-:==", "5:->@0-2 5:-@2-3 5::=@3-5 5:=@5-6"},
		{"(),;=<+-*|!", "5:(@0-1 5:)@1-2 5:,@2-3 5:;@3-4 5:=@4-5 5:<@5-6 5:+@6-7 5:-@7-8 5:*@8-9 5:|@9-10 5:!@10-11"},
		{"a(**)b", "2:a@0-1 2:b@5-6"}, {"a(*(*)*)*)b", "2:a@0-1 2:b@10-11"}, {"(*&\xff' (* > *) : *)1", "1:1@18-19"},
		{"*)", "5:*@0-1 5:)@1-2"}, {"( *", "5:(@0-1 5:*@2-3"},
		{"4611686018427387903 000", "1:4611686018427387903@0-19 1:000@20-23"},
		{"type of let rec in fun if then else match with end ref print read raise try true false", ""},
	} {
		l, err, at := Lex(c.s)
		if strings.HasPrefix(c.s, "type of") {
			for _, w := range l {
				if w.Kind != 4 {
					t.Errorf("P2.1: %q is no keyword", w.Text)
				}
			}
			continue
		}
		if show(l) != c.want || err != api.OK || at != 0 {
			t.Errorf("P2.1: Lex(%q) is %s, %d, %d", c.s, show(l), err, at)
		}
	}
}

func TestErrors(t *testing.T) {
	many := strings.Repeat("a ", api.MaxTokens)
	many = strings.ReplaceAll(many, " ", "+")[:api.MaxTokens]
	for _, c := range []struct {
		s   string
		err api.Errno
		at  int
	}{
		{"x & y", api.EFORM, 2}, {"x\xff", api.EFORM, 1}, {"a > b", api.EFORM, 2}, {"a : b", api.EFORM, 2},
		{"f 'a", api.EFORM, 2}, {"4611686018427387904", api.EFORM, 0}, {"x 99999999999999999999999999", api.EFORM, 2},
		{"x (* (* *)", api.EFORM, 2}, {"(*)", api.EFORM, 0}, {"(*", api.EFORM, 0}, {"a.b", api.EFORM, 1}, {"1 ٣", api.EFORM, 2},
		{many, api.OK, 0}, {many + "-", api.ELIMIT, 2000}, {many + " (* *)\n1 &", api.ELIMIT, 2007}, {many + "&", api.EFORM, 2000},
		{many + " (*", api.EFORM, 2001}, {many + " \n(**) ", api.OK, 0},
		{strings.Repeat(" ", api.MaxSource), api.OK, 0}, {strings.Repeat(" ", api.MaxSource+1), api.ELIMIT, 0},
		{"&" + strings.Repeat(" ", api.MaxSource), api.ELIMIT, 0}, {"& (*", api.EFORM, 0},
	} {
		l, err, at := Lex(c.s)
		if err != c.err || at != c.at || err != api.OK && len(l) != 0 {
			t.Errorf("P2.1: Lex(%.40q) is %d tokens, %d, %d", c.s, len(l), err, at)
		}
	}
}
