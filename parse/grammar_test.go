package parse_test

import (
	"regexp"
	"slices"
	"strconv"
	"strings"
	"testing"

	"entente/api"
	"entente/formula"
	"entente/parse"
)

// The document's words on what is read, as patterns.
var (
	wholeText = regexp.MustCompile(`\A(?:[ \t\n]|[a-z0-9.-]|[(),])*\z`)
	tokens    = regexp.MustCompile(`[a-z0-9.-]+|[(),]`)
	roleWord  = regexp.MustCompile(`\A[a-z][a-z0-9-]{0,15}\.[a-z][a-z0-9-]{0,15}\z`)
	kWord     = regexp.MustCompile(`\A(?:0|[1-9][0-9]?)\z`)
)

// says what a text says by the document's words.
func says(s string) (api.Formula, api.Errno) {
	if len(s) > 2048 {
		return api.Formula{}, api.ErrLong
	}
	f, ok := anyOf(tokens.FindAllString(s, -1))
	if !ok || !wholeText.MatchString(s) {
		return api.Formula{}, api.ErrForm
	}
	if !formula.Right(f) {
		return api.Formula{}, api.ErrLong
	}
	return f, api.OK
}

// split tokens wherever one stands in no brackets.
func split(l []string, between string) [][]string {
	var parts [][]string
	from, depth := 0, 0
	for i, s := range l {
		switch {
		case s == "(":
			depth++
		case s == ")":
			depth--
		case s == between && depth == 0:
			parts = append(parts, l[from:i])
			from = i + 1
		}
	}
	return append(parts, l[from:])
}

// each part, as what a function says that it is.
func each(parts [][]string, is func([]string) (api.Formula, bool)) ([]api.Formula, bool) {
	var l []api.Formula
	for _, part := range parts {
		f, ok := is(part)
		if !ok {
			return nil, false
		}
		l = append(l, f)
	}
	return l, true
}

func anyOf(l []string) (api.Formula, bool) {
	kids, ok := each(split(l, "or"), bothOf)
	if ok && len(kids) == 1 {
		return kids[0], true
	}
	return some(kids...), ok
}

func bothOf(l []string) (api.Formula, bool) {
	kids, ok := each(split(l, "and"), oneOf)
	if ok && len(kids) == 1 {
		return kids[0], true
	}
	return all(kids...), ok
}

func oneOf(l []string) (api.Formula, bool) {
	if len(l) == 1 {
		return atom(l[0]), roleWord.MatchString(l[0])
	}
	ahead := slices.Index(l, "(")
	if ahead < 0 || l[len(l)-1] != ")" {
		return api.Formula{}, false
	}
	inner := l[ahead+1 : len(l)-1]
	if ahead == 0 {
		return anyOf(inner)
	}
	f, ok := api.Formula{}, true
	switch {
	case ahead == 1 && l[0] == "all":
		f.Op = api.All
	case ahead == 1 && l[0] == "some":
		f.Op = api.Some
	case ahead == 2 && l[0] == "at" && kWord.MatchString(l[1]):
		f.Op = api.AtK
		f.K, _ = strconv.Atoi(l[1])
	default:
		return f, false
	}
	if len(inner) > 0 {
		f.Kids, ok = each(split(inner, ","), anyOf)
	}
	return f, ok
}

// count of answers: how many texts say something, how many aren't of the grammar, how many are too long.
type count struct{ well, form, long int }

// check a text by the document's words.
func (n *count) check(t *testing.T, s string) {
	t.Helper()
	want, e := says(s)
	f, got := parse.Parse(s)
	if got != e || !formula.Same(f, want) {
		t.Fatalf("%q: %v, %v, not %v, %v", s, f, got, want, e)
	}
	switch e {
	case api.OK:
		n.well++
		if again, e := parse.Parse(parse.Text(f)); e != api.OK || !formula.Same(again, f) {
			t.Fatalf("%q is told as %q", s, parse.Text(f))
		}
	case api.ErrForm:
		n.form++
	case api.ErrLong:
		n.long++
	}
}

// fewTokens that a text may have.
var fewTokens = []string{"a.r", "or", "and", "all", "some", "at", "1", "(", ")", ","}

// P12.2: all texts of up to five tokens.
func TestAllShortTexts(t *testing.T) {
	var n count
	var longer func(l []string)
	longer = func(l []string) {
		n.check(t, strings.Join(l, " "))
		if len(l) < 5 {
			for _, s := range fewTokens {
				longer(append(l[:len(l):len(l)], s))
			}
		}
	}
	longer(nil)
	if n.well < 20 || n.form < 100000 || n.long < 1 {
		t.Errorf("%+v", n)
	}
}

// P12.2: each byte laid at each place of a text, between or instead of one there, and each one left out.
func TestAllSigns(t *testing.T) {
	var n count
	for _, s := range []string{"at 1(a.r and b.s,\tc.t)", "(a.r or all())\nand some(b-2.s)", " a.r "} {
		for i := range len(s) + 1 {
			for x := range 256 {
				n.check(t, s[:i]+string([]byte{byte(x)})+s[i:])
				if i < len(s) {
					n.check(t, s[:i]+string([]byte{byte(x)})+s[i+1:])
				}
			}
			if i < len(s) {
				n.check(t, s[:i]+s[i+1:])
			}
		}
	}
	if n.well < 1000 || n.form < 10000 || n.long < 5 {
		t.Errorf("%+v", n)
	}
}

// P12.2: a word by itself, and as a K, is one of these only by all of its signs.
func TestAllShortWords(t *testing.T) {
	const signs = "az09-. A"
	var n count
	var longer func(s string)
	longer = func(s string) {
		n.check(t, s)
		n.check(t, "at "+s+"(a.r)")
		n.check(t, "all(b.s or "+s+")")
		if len(s) < 4 {
			for i := range len(signs) {
				longer(s + signs[i:i+1])
			}
		}
	}
	longer("")
	if n.well < 100 || n.form < 1000 || n.long < 5 {
		t.Errorf("%+v", n)
	}
}
