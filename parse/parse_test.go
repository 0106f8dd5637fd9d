package parse_test

import (
	"slices"
	"strings"
	"testing"

	"entente/api"
	"entente/formula"
	"entente/parse"
)

const longest = "abcdefghijklmnop"

// of makes a role of its text, right or not.
func of(s string) api.Role {
	owner, word, _ := strings.Cut(s, ".")
	return api.Role{Owner: owner, Word: word}
}

// atom of a role's text.
func atom(s string) api.Formula { return api.Formula{Op: api.Atom, Role: of(s)} }

func all(l ...api.Formula) api.Formula  { return api.Formula{Op: api.All, Kids: l} }
func some(l ...api.Formula) api.Formula { return api.Formula{Op: api.Some, Kids: l} }
func atK(k int, l ...api.Formula) api.Formula {
	return api.Formula{Op: api.AtK, K: k, Kids: l}
}

// times makes n Kids of one.
func times(n int, f api.Formula) []api.Formula {
	var l []api.Formula
	for range n {
		l = append(l, f)
	}
	return l
}

var (
	a = atom("a.r")
	b = atom("b.s")
	c = atom("c.t")
)

// wide formula of so many nodes, from 10 to 73, with as long a text as may be.
func wide(nodes int) api.Formula {
	f := atK(8, times(8, all())...)
	for i := range f.Kids {
		n := min(8, nodes-9-8*i)
		if n > 0 {
			f.Kids[i] = atK(n, times(n, atom(longest+"."+longest))...)
		}
	}
	f.Kids[7] = atom(longest + "." + longest)
	return f
}

// told formulas, with their texts.
var told = []struct {
	f api.Formula
	s string
}{
	{a, "a.r"},
	{atom("gov-1.id-"), "gov-1.id-"},
	{atom(longest + "." + longest), longest + "." + longest},
	{atom("all.at"), "all.at"},
	{atom("or.and"), "or.and"},
	{all(), "all()"},
	{some(), "some()"},
	{all(a), "all(a.r)"},
	{some(a), "some(a.r)"},
	{all(a, b), "all(a.r, b.s)"},
	{some(a, b), "some(a.r, b.s)"},
	{some(b, a, b), "some(b.s, a.r, b.s)"},
	{atK(0, a), "at 0(a.r)"},
	{atK(1, a), "at 1(a.r)"},
	{atK(2, a, b, c), "at 2(a.r, b.s, c.t)"},
	{atK(8, times(8, all())...), "at 8(all(), all(), all(), all(), all(), all(), all(), all())"},
	{all(a, some(b, c)), "all(a.r, some(b.s, c.t))"},
	{all(all(a, b), c), "all(all(a.r, b.s), c.t)"},
	{some(all(), atK(1, some(a), some()), all(a, all(b))), "some(all(), at 1(some(a.r), some()), all(a.r, all(b.s)))"},
	{all(all(all(all(all(a))))), "all(all(all(all(all(a.r)))))"},
	{some(times(8, a)...), "some(a.r" + strings.Repeat(", a.r", 7) + ")"},
}

// wrong formulas.
var wrong = []api.Formula{
	{}, {Op: 5}, {Op: -1}, {Op: api.Atom}, atom("a."), atom(".r"), atom("A.r"), atom("a.r.s"), atom(longest + "q.r"),
	{Op: api.Atom, Role: of("a.r"), K: 1}, {Op: api.Atom, Role: of("a.r"), Kids: times(1, a)}, {Op: 0, Role: of("a.r")},
	{Op: api.All, K: 1}, {Op: api.Some, K: -1, Kids: times(1, a)}, {Op: api.All, Role: of("a.r")}, {Op: api.Some, Role: of("a.r"), Kids: times(1, a)},
	atK(0), atK(1), atK(2, a), atK(-1, a), atK(9, times(8, a)...), atK(1, times(9, a)...),
	all(times(9, a)...), some(times(9, a)...), all(all(all(all(all(all(all())))))), all(all(all(all(all(all(a)))))),
	all(a, some(b, atom("c."))), all(a, api.Formula{}), some(api.Formula{Op: 7}), wide(66),
}

// P12.1: the text of a right one.
func TestText(t *testing.T) {
	for _, x := range told {
		if s := parse.Text(x.f); s != x.s {
			t.Errorf("%q, not %q", s, x.s)
		}
	}
	if s := parse.Text(api.Formula{Op: api.All, Kids: []api.Formula{}}); s != "all()" {
		t.Errorf("all of an empty list: %q", s)
	}
}

// P12.1: others have none, those that have no end too.
func TestTextOfWrong(t *testing.T) {
	endless := all(a, all())
	endless.Kids[1] = endless
	great := all()
	for range 5000 {
		great = all(great, great)
	}
	for i, f := range slices.Concat(wrong, []api.Formula{endless, great}) {
		if s := parse.Text(f); s != "" {
			t.Errorf("%d: %q", i, s)
		}
		if s := parse.Text(some(all(), f)); s != "" {
			t.Errorf("%d as a Kid: %q", i, s)
		}
	}
}

// known texts that are of the grammar, with what they say.
var known = []struct {
	s string
	f api.Formula
}{
	{"a.r or b.s", some(a, b)},
	{"a.r and b.s", all(a, b)},
	{"a.r or b.s or c.t", some(a, b, c)},
	{"a.r and b.s and c.t", all(a, b, c)},
	{"a.r or a.r", some(a, a)},
	{"a.r or b.s and c.t", some(a, all(b, c))},
	{"a.r and b.s or c.t", some(all(a, b), c)},
	{"a.r and b.s or b.s and c.t or c.t", some(all(a, b), all(b, c), c)},
	{"a.r and (b.s or c.t)", all(a, some(b, c))},
	{"(a.r or b.s) and c.t", all(some(a, b), c)},
	{"(a.r and b.s) and c.t", all(all(a, b), c)},
	{"a.r and (b.s and c.t)", all(a, all(b, c))},
	{"(a.r or b.s) or c.t", some(some(a, b), c)},
	{"a.r or (b.s or c.t)", some(a, some(b, c))},
	{"(a.r)", a},
	{"((((((((a.r))))))))", a},
	{"(a.r)and(b.s)", all(a, b)},
	{"(a.r)or(b.s)", some(a, b)},
	{"((a.r or b.s))", some(a, b)},
	{"(all())", all()},
	{"all(a.r and b.s, c.t or a.r)", all(all(a, b), some(c, a))},
	{"all((a.r), (b.s and c.t))", all(a, all(b, c))},
	{"all(a.r) and all(b.s) or all(c.t)", some(all(all(a), all(b)), all(c))},
	{"all(a.r)and some(b.s)or at 1(c.t)", some(all(all(a), some(b)), atK(1, c))},
	{"some(a.r or b.s)", some(some(a, b))},
	{"all() or some()", some(all(), some())},
	{"at 0(a.r)", atK(0, a)},
	{"at 2(a.r and b.s, c.t)", atK(2, all(a, b), c)},
	{"at 1(at 1(at 1(a.r)))", atK(1, atK(1, atK(1, a)))},
	{"and.or and or.and or all.some or at.at", some(all(atom("and.or"), atom("or.and")), atom("all.some"), atom("at.at"))},
	{"a.r and b-.s- or c2.t9", some(all(a, atom("b-.s-")), atom("c2.t9"))},
	{longest + "." + longest + " or a.r", some(atom(longest+"."+longest), a)},
	{strings.TrimSuffix(strings.Repeat("a.r or ", 8), " or "), some(times(8, a)...)},
	{strings.TrimSuffix(strings.Repeat("a.r and ", 8), " and "), all(times(8, a)...)},
	{strings.Repeat("(", 1000) + "a.r" + strings.Repeat(")", 1000), a},
	{strings.Repeat("all(", 5) + "a.r" + strings.Repeat(")", 5), all(all(all(all(all(a)))))},
	// Blanks between, around, and where none is needed.
	{" a.r", a},
	{"a.r ", a},
	{"\n\t a.r \t\n", a},
	{"a.r\tor\nb.s", some(a, b)},
	{"a.r \t\n and \n\t b.s", all(a, b)},
	{" ( a.r ) ", a},
	{"all ( )", all()},
	{"all\n(\t)", all()},
	{"all(a.r,b.s)", all(a, b)},
	{"all ( a.r , b.s )", all(a, b)},
	{"at 2 ( a.r , b.s )", atK(2, a, b)},
	{"at\t2(a.r\n,\nb.s)", atK(2, a, b)},
	{"at   1(a.r)", atK(1, a)},
}

// parsed is what is said, and fails the test where that is an error.
func parsed(t *testing.T, s string) api.Formula {
	t.Helper()
	f, e := parse.Parse(s)
	if e != api.OK {
		t.Errorf("%.60q: %v", s, e)
	}
	return f
}

// P12.2: what texts say.
func TestParse(t *testing.T) {
	for _, x := range known {
		if f := parsed(t, x.s); !formula.Same(f, x.f) {
			t.Errorf("%.60q: %v, not %v", x.s, f, x.f)
		}
	}
	for _, x := range told {
		if f := parsed(t, x.s); !formula.Same(f, x.f) {
			t.Errorf("%.60q: %v, not %v", x.s, f, x.f)
		}
	}
}

// refused fails the test unless a text is answered with this error, and the zero formula.
func refused(t *testing.T, s string, want api.Errno) {
	t.Helper()
	f, e := parse.Parse(s)
	if e != want || !formula.Same(f, api.Formula{}) {
		t.Errorf("%.60q: %v, %v, not %v", s, f, e, want)
	}
}

// P12.2: texts that aren't of the grammar.
func TestParseForm(t *testing.T) {
	for _, s := range []string{
		"", " ", "\n\t", "a", "a.", ".r", ".", "a..r", "a.r.s", "a.r.", ".a.r", "1.r", "a.1", "-a.r", "a.-r", longest + "q.r", "a." + longest + "q",
		"A.r", "a.R", "a_b.r", "a,r", "a:r", "a.r;", "a.r!", "\"a.r\"", "[a.r]", "{a.r}", "a.r & b.s", "a.r && b.s", "a.r | b.s", "not a.r", "a.r <- b.s",
		"é.r", "a.é", "a.r\x00", "\x00a.r", "\xffa.r", "a.r\xff", "a.r\rb.s", "a.r\r", "\ra.r", "a.r\v", "a.r\f", "a.r\u00a0or b.s", "a.r\u2003", "\ufeffa.r",
		"or", "and", "all", "some", "at", "1", "at 1", "all a.r", "some a.r", "at 1 a.r", "(", ")", ",", "()", "(())", ")(", "( )",
		"a.r b.s", "a.r\nb.s", "a.r,b.s", "a.r, b.s", "a.r and", "a.r or", "and a.r", "or a.r", "a.r and and b.s", "a.r or or b.s", "a.r and or b.s", "a.r or and b.s",
		"a.r andb.s", "a.rand b.s", "a.r orb.s", "a.r AND b.s", "a.r Or b.s", "a.r nor b.s", "ALL()", "All()", "Some()", "any(a.r)", "atk 1(a.r)", "or(a.r, b.s)", "and(a.r, b.s)",
		"(a.r", "a.r)", "((a.r)", "(a.r))", "(a.r,)", "(a.r, b.s)", "(a.r b.s)", "(a.r)(b.s)", "(a.r) b.s", "a.r (b.s)", "a.r(b.s)", "(or)", "(a.r or)", "(and a.r)",
		"all(", "all)", "all(a.r", "all(a.r,", "all(a.r,)", "all(,)", "all(,a.r)", "all(a.r,,b.s)", "all(a.r b.s)", "all((a.r, b.s))", "all(())", "all()()", "all()all()", "all() some()", "all(a.r))", "all.(a.r)", "all.s(a.r)",
		"all(a.r) b.s", "all(a.r and)", "all(a.r, or b.s)", "all,(a.r)", "all all()", "some((), a.r)", "all(all)", "all(at)", "all(1)",
		"at(a.r)", "at (a.r)", "at1(a.r)", "at-1(a.r)", "at -1(a.r)", "at +1(a.r)", "at 01(a.r)", "at 00(a.r)", "at 001(a.r)", "at -0(a.r)", "at 0x1(a.r)", "at 100(a.r)", "at 999(a.r)", "at 1000(a.r)", "at 1a(a.r)", "at a(a.r)", "at 1.(a.r)", "at 1.0(a.r)", "at .1(a.r)", "at 1-(a.r)",
		"at 1 1(a.r)", "at 1, (a.r)", "at (1)(a.r)", "at 1a.r", "at a.r", "at a.r(b.s)", "at all(a.r)", "at at 1(a.r)", "at 18446744073709551617(a.r)", "at 1()all()", "1(a.r)", "2 (a.r)", "at 1(", "at 1)", "at 1(a.r", "at 1(a.r,)", "at 1(,)", "at ٣(a.r)",
		"a .r", "a. r", "a . r", "a.r o r b.s", "al l()",
	} {
		refused(t, s, api.ErrForm)
	}
}

// P12.2: texts of the grammar that say what isn't right.
func TestParseNotRight(t *testing.T) {
	for _, s := range []string{
		"at 0()", "at 1()", "at 2(a.r)", "at 3(a.r, b.s)", "at 9(a.r)", "at 10(a.r)", "at 99(a.r)", "at 99()", "at 9(" + strings.Repeat("a.r, ", 7) + "a.r)",
		"a.r and at 0()", "all(a.r, at 2(b.s))", "(at 1())",
		strings.Repeat("a.r and ", 8) + "a.r", strings.Repeat("a.r or ", 8) + "a.r", "all(" + strings.Repeat("a.r, ", 8) + "a.r)", "some(" + strings.Repeat("a.r, ", 8) + "a.r)", "at 1(" + strings.Repeat("a.r, ", 8) + "a.r)",
		strings.Repeat("all(", 6) + "a.r" + strings.Repeat(")", 6), strings.Repeat("all(", 7) + strings.Repeat(")", 7), strings.Repeat("some(", 300) + strings.Repeat(")", 300),
		strings.Repeat("(", 6) + "a.r" + strings.Repeat(" and b.s)", 6), strings.Repeat("a.r or (", 6) + "b.s" + strings.Repeat(")", 6), strings.Repeat("a.r and (b.s or (", 3) + "c.t" + strings.Repeat("))", 3),
		strings.Repeat("a.r or ", 290) + "a.r", strings.Repeat("a.r and b.s or ", 100) + "a.r",
	} {
		refused(t, s, api.ErrLong)
	}
}

// P12.2: which error goes ahead of which.
func TestParseErrors(t *testing.T) {
	pad := func(s string, size int) string { return s + strings.Repeat(" ", size-len(s)) }
	for _, x := range []struct {
		s string
		e api.Errno
	}{
		{pad("a.r", 2047), api.OK}, {pad("a.r", 2048), api.OK}, {pad("a.r", 2049), api.ErrLong}, {pad("a.r", 70000), api.ErrLong},
		{strings.Repeat("\n", 2045) + "a.r", api.OK}, {strings.Repeat("\n", 2046) + "a.r", api.ErrLong},
		{pad("", 2048), api.ErrForm}, {pad("", 2049), api.ErrLong}, {pad("a.r,", 2048), api.ErrForm}, {pad("a.r,", 2049), api.ErrLong}, {pad("at 1()", 2048), api.ErrLong},
		{strings.Repeat("(", 2048), api.ErrForm}, {strings.Repeat("(", 2049), api.ErrLong}, {strings.Repeat("all(", 512), api.ErrForm}, {strings.Repeat("at 1(", 409), api.ErrForm}, {strings.Repeat("a.r and ", 256), api.ErrForm},
		{strings.Repeat("(", 1022) + "a.r" + strings.Repeat(")", 1022), api.OK}, {strings.Repeat("(", 1022) + "a.r" + strings.Repeat(")", 1023), api.ErrForm}, {strings.Repeat("(", 1023) + "a.r" + strings.Repeat(")", 1023), api.ErrLong},
		// Of one that isn't right, what is behind counts all the same.
		{"at 2(a.r)", api.ErrLong}, {"at 2(a.r) or", api.ErrForm}, {"at 2(a.r), b.s", api.ErrForm}, {"at 2(a.r) & b.s", api.ErrForm}, {"at 0() at 0()", api.ErrForm},
		{strings.Repeat("a.r and ", 20), api.ErrForm}, {strings.Repeat("a.r and ", 20) + "a.r", api.ErrLong}, {strings.Repeat("a.r and ", 20) + "A.r", api.ErrForm},
		{strings.Repeat("all(", 9) + strings.Repeat(")", 8), api.ErrForm}, {strings.Repeat("all(", 9) + strings.Repeat(")", 9), api.ErrLong}, {strings.Repeat("all(", 9) + strings.Repeat(")", 10), api.ErrForm},
	} {
		f, e := parse.Parse(x.s)
		if e != x.e || (f.Op == 0) != (e != api.OK) {
			t.Errorf("%.40q of %d bytes: %v, %v, not %v", x.s, len(x.s), f, e, x.e)
		}
	}
}

// P12.2: each number of Kids with each K that two digits tell, and some more.
func TestParseAtK(t *testing.T) {
	for n := range 12 {
		l := strings.TrimSuffix(strings.Repeat("a.r, ", n), ", ")
		for k := range 120 {
			f := atK(k, times(n, a)...)
			s := "at " + string(appendInt(nil, k)) + "(" + l + ")"
			switch {
			case k > 99:
				refused(t, s, api.ErrForm)
			case n < 1 || n > 8 || k > n:
				refused(t, s, api.ErrLong)
			default:
				if got := parsed(t, s); !formula.Same(got, f) || parse.Text(f) != s {
					t.Errorf("%s: %v, told as %s", s, got, parse.Text(f))
				}
			}
		}
	}
}

// appendInt appends the digits of a number.
func appendInt(l []byte, n int) []byte {
	if n > 9 {
		l = appendInt(l, n/10)
	}
	return append(l, byte('0'+n%10))
}

// P12.3: what is told is parsed, and no right one has too long a text.
func TestTextThenParse(t *testing.T) {
	for _, x := range told {
		if f := parsed(t, parse.Text(x.f)); !formula.Same(f, x.f) {
			t.Errorf("%q: %v", parse.Text(x.f), f)
		}
	}
	// Of 64 nodes 56 are Atoms at the most, for 8 with Kids are needed.
	most := wide(64)
	s := parse.Text(most)
	if len(s) < 1900 || len(s) > api.MostText {
		t.Errorf("the longest has %d bytes", len(s))
	}
	if f := parsed(t, s); !formula.Same(f, most) {
		t.Errorf("%v", f)
	}
}

// P12.3: what is parsed is told so that it says the same.
func TestParseThenText(t *testing.T) {
	for _, x := range known {
		s := parse.Text(parsed(t, x.s))
		if f := parsed(t, s); !formula.Same(f, x.f) || parse.Text(f) != s {
			t.Errorf("%.60q is told as %q, which says %v", x.s, s, f)
		}
	}
}
